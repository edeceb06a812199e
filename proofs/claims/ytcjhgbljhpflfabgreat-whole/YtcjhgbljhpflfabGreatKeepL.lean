/-
  A layer over a ciphertext: diagonals against turned rows; the bounds on the way. No program here.
  Walks: differences, a layer applied, the greatest bound, of the statements without the document's answer.
  Walks: the greatest bound; what came of Linear, of the statements without the document's answer.
-/
import Derived.Test.YtcjhgbljhpflfabGreatKeepW
import Derived.Test.YtcjhgbljhpflfabGreatWalksNa
import Derived.Test.YtcjhgbljhpflfabGreatCodeLd
import Derived.Test.YtcjhgbljhpflfabGreatKeepT
namespace Go.Proofs.YtcjhgbljhpflfabGreat
open Go.RowKit
set_option linter.unusedVariables false
set_option maxRecDepth 100000

/-- the slot that lies at j behind i turns -/
def rotN (n i j : Nat) : Nat := j / (n / 2) * (n / 2) + (j % (n / 2) + i) % (n / 2)

theorem rot_facts (n : Nat) (hn : n = 4 ∨ n = 8 ∨ n = 16) : ∀ i, i < 8 → ∀ j, j < n → rotN n i (aheadN n j) = rotN n (i + 1) j ∧ rotN n i j < n ∧ rotN n 0 j = j ∧ j % (n / 2) < n / 2 ∧ j / (n / 2) * (n / 2) + n / 2 ≤ n := by
  rcases hn with rfl | rfl | rfl <;> decide

def rotI (n i : Nat) (vs : List Int) : List Int := (List.range n).map fun j => vs.getD (rotN n i j) 0

theorem rotI_zero (n : Nat) (hn : n = 4 ∨ n = 8 ∨ n = 16) (vs : List Int) (hl : vs.length = n) : rotI n 0 vs = vs := by
  refine list_same (n := n) (by simp [rotI]) hl fun j hj => ?_
  rw [rotI, getD_range hj, (rot_facts n hn 0 (by omega) j hj).2.2.1]

theorem rotI_ahead (n : Nat) (hn : n = 4 ∨ n = 8 ∨ n = 16) (vs : List Int) (i : Nat) (hi : i < 8) : aheadI n (rotI n i vs) = rotI n (i + 1) vs := by
  have hlt : ∀ j, j < n → aheadN n j < n := by
    rcases hn with rfl | rfl | rfl <;> decide
  refine list_same (n := n) (by simp [aheadI]) (by simp [rotI]) fun j hj => ?_
  rw [aheadI, getD_range hj, rotI, getD_range (hlt j hj), rotI, getD_range hj, (rot_facts n hn i hi j hj).1]

/-- the bound of what has been turned i times -/
def tuE (R TN i : Nat) : Nat := 2 + i * (R + TN)
/-- the greatest bound of the sum behind the term i -/
def moE (n t R TN : Nat) : Nat → Nat
  | 0 => n * (t / 2) * (tuE R TN 0 + R) + R
  | i + 1 => moE n t R TN i + n * (t / 2) * (tuE R TN (i + 1) + R) + R

theorem moE_mono (n t R TN i j : Nat) (h : i ≤ j) : moE n t R TN i ≤ moE n t R TN j := by
  induction j with
  | zero => obtain rfl : i = 0 := by omega
            exact Nat.le_refl _
  | succ j ih =>
    rcases Nat.lt_or_ge i (j + 1) with c | c
    · exact Nat.le_trans (ih (by omega)) (by simp only [moE]; omega)
    · obtain rfl : i = j + 1 := by omega
      exact Nat.le_refl _

theorem term_le (n t R TN i : Nat) : n * (t / 2) * (tuE R TN i + R) + R ≤ moE n t R TN i := by
  cases i with
  | zero => exact Nat.le_refl _
  | succ i => simp only [moE]; omega

theorem turned_le (n t R TN i : Nat) (hn : 1 ≤ n) (ht : 2 ≤ t) : tuE R TN i ≤ moE n t R TN i := by
  refine Nat.le_trans ?_ (term_le n t R TN i)
  have h1 : 1 ≤ n * (t / 2) := Nat.mul_pos hn (by omega)
  have h2 : 1 * (tuE R TN i + R) ≤ n * (t / 2) * (tuE R TN i + R) := Nat.mul_le_mul_right _ h1
  omega

/-- the sums, slot by slot, behind the term i -/
def sumC (n : Nat) (t : Int) (l : List UInt8) (vs : List Int) (i j : Nat) : Int := sumI (fun k => vs.getD (rotN n k j) 0 * dgC n l k (j % (n / 2))) (i + 1) % t
def sumsI (n : Nat) (t : Int) (l : List UInt8) (vs : List Int) (i : Nat) : List Int := (List.range n).map (sumC n t l vs i)

def cubT (n t : Nat) (ms : List Int) : Nat → List Int
  | 0 => ms
  | i + 1 => cubI n (cubT n t ms i) t

theorem abs_le {n t : Nat} (g : NT n t) (vs : List Int) : absS t (encI n t vs) n ≤ n * (t / 2) := by
  have := absS_half (t : Int) (encI n t vs) n n (Nat.le_refl _) (encI_lt g vs)
  have e : ((n : Int) * ((t : Int) / 2)) = ((n * (t / 2) : Nat) : Int) := by rw [Int.natCast_mul]; rfl
  rw [e] at this
  omega

theorem fits_no {t q : Int} {e f : Nat} (ht : 0 ≤ t) (h : e ≤ f) (hf : fitsB t q e = false) : fitsB t q f = false := fitsB_mono ht (by omega) hf

/-- what stands behind the term i -/
theorem lin_state {n t : Nat} {q b : Int} (p : GoodP n t q b) (hb : 1 ≤ b) (hb2 : b ≤ 8) (L : Nat) (hL : DigOf q b L) (s : List Int) (x d l : List UInt8) (ms vs : List Int) (hx : IsCT n t q s x ms 2) (hv : decI n t ms = vs) (hl : layB l n t = true) :
    ∀ i, i < n / 2 →
      (((linS n t q b L l (tkL n s q b d L) x i).2.2 = 0 ∧ IsCT n t q s (linS n t q b L l (tkL n s q b d L) x i).1 (cubT n t ms i) (tuE (q % (t : Int)).toNat (tnN n L b) i) ∧ decI n t (cubT n t ms i) = rotI n i vs ∧
        ∃ ls B, IsCT n t q s (linS n t q b L l (tkL n s q b d L) x i).2.1 ls B ∧ B + (q % (t : Int)).toNat ≤ moE n t (q % (t : Int)).toNat (tnN n L b) i ∧ decI n t ls = sumsI n t l vs i) ∨
      ((linS n t q b L l (tkL n s q b d L) x i).2.2 = 4 ∧ fitsB t q (moE n t (q % (t : Int)).toNat (tnN n L b) i : Nat) = false)) := by
  have hn := p.nt.hn
  have ht := p.nt.t3
  have ht2 := p.nt.ht
  have h256 : ((256 ^ 2 : Nat) : Int) = 65536 := by decide
  have hvl : vs.length = n := by rw [← hv]; exact decI_length _ _ _
  have hdd : ∀ i, decI n t (encI n t (diaI n l i)) = diaI n l i := fun i => dec_enc p.nt _ (diaI_length _ _ _) (diaI_small n hn t l hl i)
  have hok : ∀ i, okL (diagL n l i) n 2 t = true := fun i => by rw [diag_text n hn]; exact okL_texts _ n 2 t (diaI_length _ _ _) (diaI_small n hn t l hl i) (by omega)
  generalize hR : (q % (t : Int)).toNat = R
  generalize hTN : tnN n L b = TN
  intro i
  induction i with
  | zero =>
    intro _
    have e1 : mulA n t q x (diagL n l 0) = mulPlainL n t q x (textsL 2 (diaI n l 0)) := by
      unfold mulA
      rw [if_pos hx.ct, if_pos (hok 0), diag_text n hn]
    have hc := came_mul p s x ms (diaI n l 0) 2 hx (diaI_length _ _ _) (diaI_small n hn t l hl 0)
    rw [hR] at hc
    have hle : absS t (encI n t (diaI n l 0)) n * (2 + R) ≤ n * (t / 2) * (2 + R) := Nat.mul_le_mul_right _ (abs_le p.nt _)
    have hm0 : moE n t R TN 0 = n * (t / 2) * (2 + R) + R := by simp [moE, tuE]
    simp only [linS]
    rw [e1]
    rcases hc with ⟨f1, f2, f3⟩ | ⟨f1, f2⟩
    · refine Or.inl ⟨f2, by simpa [tuE, cubT] using hx, ?_, _, _, f3, ?_, ?_⟩
      · show decI n t ms = _
        rw [hv, rotI_zero n hn vs hvl]
      · rw [hm0]; omega
      · rw [dec_times p.nt, hdd, hv]
        refine list_same (n := n) (by simp [prodI]) (by simp [sumsI]) fun j hj => ?_
        rw [prodI, getD_range hj, sumsI, getD_range hj, sumC, diaI, getD_range hj]
        simp only [sumI, Int.zero_add]
        rw [(rot_facts n hn 0 (by omega) j hj).2.2.1]
    · refine Or.inr ⟨by rw [f2], fits_no (by omega) ?_ f1⟩
      rw [hm0]; omega
  | succ i ih =>
    intro hi
    rcases ih (by omega) with ⟨h1, h2, h3, ls, B, h4, h5, h6⟩ | ⟨h1, h2⟩
    · have ht1 := came_turn p hb hb2 L hL s (linS n t q b L l (tkL n s q b d L) x i).1 d (cubT n t ms i) (tuE R TN i) h2
      rw [hR, hTN] at ht1
      have eT : tuE R TN i + R + TN = tuE R TN (i + 1) := by unfold tuE; rw [Nat.succ_mul]; omega
      rw [eT] at ht1
      have e0 : turnA n t q b L (linS n t q b L l (tkL n s q b d L) x i).1 (tkL n s q b d L) = turnL n t q b L (linS n t q b L l (tkL n s q b d L) x i).1 (tkL n s q b d L) := by
        unfold turnA; rw [if_pos h2.ct]
      have eS : linS n t q b L l (tkL n s q b d L) x (i + 1) = linN n t q b L l (tkL n s q b d L) (i + 1) (linS n t q b L l (tkL n s q b d L) x i).1 (linS n t q b L l (tkL n s q b d L) x i).2.1 (linS n t q b L l (tkL n s q b d L) x i).2.2 := rfl
      rw [eS]
      unfold linN
      rw [if_pos h1, e0]
      generalize turnL n t q b L (linS n t q b L l (tkL n s q b d L) x i).1 (tkL n s q b d L) = T at ht1 ⊢
      have hm1 := turned_le n t R TN (i + 1) (by omega) (by omega)
      have hm2 := term_le n t R TN (i + 1)
      have hmS : moE n t R TN (i + 1) = moE n t R TN i + n * (t / 2) * (tuE R TN (i + 1) + R) + R := rfl
      have hi8 : i < 8 := by omega
      rcases ht1 with ⟨f1, f2, f3⟩ | ⟨f1, f2⟩
      · rw [if_pos f2]
        have e1 : mulA n t q T.1 (diagL n l (i + 1)) = mulPlainL n t q T.1 (textsL 2 (diaI n l (i + 1))) := by
          unfold mulA
          rw [if_pos f3.ct, if_pos (hok (i + 1)), diag_text n hn]
        rw [e1]
        have hdec : decI n t (cubI n (cubT n t ms i) t) = rotI n (i + 1) vs := by rw [dec_cub p.nt, h3, rotI_ahead n hn vs i hi8]
        have hc := came_mul p s T.1 (cubI n (cubT n t ms i) t) (diaI n l (i + 1)) (tuE R TN (i + 1)) f3 (diaI_length _ _ _) (diaI_small n hn t l hl (i + 1))
        rw [hR] at hc
        have hle : absS t (encI n t (diaI n l (i + 1))) n * (tuE R TN (i + 1) + R) ≤ n * (t / 2) * (tuE R TN (i + 1) + R) := Nat.mul_le_mul_right _ (abs_le p.nt _)
        have hpr : decI n t (timesI n (cubI n (cubT n t ms i) t) (cenI n t (encI n t (diaI n l (i + 1)))) t) = prodI n (rotI n (i + 1) vs) (diaI n l (i + 1)) t := by rw [dec_times p.nt, hdd, hdec]
        generalize mulPlainL n t q T.1 (textsL 2 (diaI n l (i + 1))) = M at hc ⊢
        generalize absS t (encI n t (diaI n l (i + 1))) n * (tuE R TN (i + 1) + R) = A at hc hle
        rcases hc with ⟨k1, k2, k3⟩ | ⟨k1, k2⟩
        · rw [if_pos k2]
          have e2 : addA n t q (linS n t q b L l (tkL n s q b d L) x i).2.1 M.1 = addL n t q (linS n t q b L l (tkL n s q b d L) x i).2.1 M.1 := by
            unfold addA
            rw [if_pos h4.ct, if_pos k3.ct]
          rw [e2]
          have ha := came_add p s (linS n t q b L l (tkL n s q b d L) x i).2.1 M.1 ls _ B A h4 k3
          rw [hR] at ha
          generalize addL n t q (linS n t q b L l (tkL n s q b d L) x i).2.1 M.1 = S at ha ⊢
          rcases ha with ⟨j1, j2, j3⟩ | ⟨j1, j2⟩
          · refine Or.inl ⟨j2, f3, hdec, _, _, j3, ?_, ?_⟩
            · rw [hmS]; omega
            · rw [dec_plus (by omega), h6, hpr]
              refine list_same (n := n) (plusI_length _ _ _ _) (by simp [sumsI]) fun j hj => ?_
              rw [plusI, getD_range hj, plusC, sumsI, getD_range hj, prodI, getD_range hj, rotI, getD_range hj, diaI, getD_range hj, sumsI, getD_range hj, sumC, sumC, add_mod_left, add_mod_right]
              rfl
          · refine Or.inr ⟨by rw [j2], fits_no (by omega) ?_ j1⟩
            rw [hmS]; omega
        · rw [if_neg (by rw [k2]; decide)]
          refine Or.inr ⟨by rw [k2], fits_no (by omega) ?_ k1⟩
          omega
      · rw [if_neg (by rw [f2]; decide)]
        refine Or.inr ⟨by rw [f2], fits_no (by omega) hm1 f1⟩
    · have := linS_stuck n t q b L l (tkL n s q b d L) x i (by rw [h1]; decide) 1
      rw [this]
      exact Or.inr ⟨h1, fits_no (by omega) (moE_mono n t R TN i (i + 1) (by omega)) h2⟩

/-- all places of a row, beginning anywhere -/
theorem sum_rot (d j : Nat) (hd : d = 2 ∨ d = 4 ∨ d = 8) (hj : j < d) (f : Nat → Int) : sumI (fun i => f ((j + i) % d)) d = sumI f d := by
  rcases hd with rfl | rfl | rfl
  · rcases (show j = 0 ∨ j = 1 by omega) with rfl | rfl <;> (simp only [sumI, Nat.reduceAdd, Nat.reduceMod] <;> omega)
  · rcases (show j = 0 ∨ j = 1 ∨ j = 2 ∨ j = 3 by omega) with rfl | rfl | rfl | rfl <;> (simp only [sumI, Nat.reduceAdd, Nat.reduceMod] <;> omega)
  · rcases (show j = 0 ∨ j = 1 ∨ j = 2 ∨ j = 3 ∨ j = 4 ∨ j = 5 ∨ j = 6 ∨ j = 7 by omega) with rfl | rfl | rfl | rfl | rfl | rfl | rfl | rfl <;> (simp only [sumI, Nat.reduceAdd, Nat.reduceMod] <;> omega)

/-- what the sums and the shares make together -/
theorem seen_sum (n : Nat) (hn : n = 4 ∨ n = 8 ∨ n = 16) (t : Int) (l : List UInt8) (vs ss ks : List Int) : plusI n (sumsI n t l vs (n / 2 - 1)) (lessI n (appI n t l ss) ks t) t = lessI n (appI n t l (plusI n vs ss t)) ks t := by
  refine list_same (n := n) (plusI_length _ _ _ _) (lessI_length _ _ _ _) fun j hj => ?_
  obtain ⟨_, _, _, hjd, hjr⟩ := rot_facts n hn 0 (by omega) j hj
  rw [plusI, getD_range hj, plusC, sumsI, getD_range hj, lessI, getD_range hj, lessI, getD_range hj, lessC, lessC, appI, getD_range hj, appI, getD_range hj, sumC, add_mod_left, add_mod_right]
  have hd : n / 2 - 1 + 1 = n / 2 := by omega
  rw [hd]
  have e1 : sumI (fun k => vs.getD (rotN n k j) 0 * dgC n l k (j % (n / 2))) (n / 2) = sumI (apT n l vs (j / (n / 2)) (j % (n / 2))) (n / 2) := by
    rw [← sum_rot (n / 2) (j % (n / 2)) (by omega) hjd (apT n l vs (j / (n / 2)) (j % (n / 2)))]
    refine sumI_congr fun i hi => ?_
    show vs.getD (j / (n / 2) * (n / 2) + (j % (n / 2) + i) % (n / 2)) 0 * (numL l (entN n (j % (n / 2)) ((j % (n / 2) + i) % (n / 2))) 2 : Int) = (numL l (entN n (j % (n / 2)) ((j % (n / 2) + i) % (n / 2))) 2 : Int) * vs.getD (j / (n / 2) * (n / 2) + (j % (n / 2) + i) % (n / 2)) 0
    exact Int.mul_comm _ _
  rw [e1]
  have e2 : sumI (apT n l (plusI n vs ss t) (j / (n / 2)) (j % (n / 2))) (n / 2) % t = (sumI (apT n l vs (j / (n / 2)) (j % (n / 2))) (n / 2) + sumI (apT n l ss (j / (n / 2)) (j % (n / 2))) (n / 2)) % t := by
    rw [← sumI_add]
    refine sumI_mod t fun k hk => ?_
    show (numL l (entN n (j % (n / 2)) k) 2 : Int) * (plusI n vs ss t).getD (j / (n / 2) * (n / 2) + k) 0 % t = _
    rw [plusI, getD_range (by omega), plusC, mul_mod_right, Int.mul_add]
    rfl
  unfold apC
  generalize sumI (apT n l (plusI n vs ss t) (j / (n / 2)) (j % (n / 2))) (n / 2) = Z at e2 ⊢
  generalize sumI (apT n l vs (j / (n / 2)) (j % (n / 2))) (n / 2) = X at e2 ⊢
  generalize sumI (apT n l ss (j / (n / 2)) (j % (n / 2))) (n / 2) = Y at e2 ⊢
  generalize (apB n l j : Int) = Bb
  generalize ks.getD j 0 = K
  have e3 : (Bb + Z) % t = (Bb + (X + Y)) % t := by rw [← add_mod_right, e2, add_mod_right]
  rw [e3, show X + ((Bb + Y) % t - K) = (Bb + Y) % t + (X - K) by omega, add_mod_left, show (Bb + (X + Y)) % t - K = (Bb + (X + Y)) % t + -K by omega, add_mod_left]
  congr 1
  omega

/-- the greatest bound that Linear can come to -/
def mostE (n t R TN : Nat) : Nat := moE n t R TN (n / 2 - 1) + R

/-- what came of Linear -/
theorem lin_came {n t : Nat} {q b : Int} (p : GoodP n t q b) (hb : 1 ≤ b) (hb2 : b ≤ 8) (L : Nat) (hL : DigOf q b L) (s : List Int) (x d l : List UInt8) (ms vs ss ks : List Int) (hx : IsCT n t q s x ms 2) (hv : decI n t ms = vs) (hl : layB l n t = true)
    (lss : ss.length = n) (lks : ks.length = n) (bss : ∀ i, i < n → 0 ≤ ss.getD i 0 ∧ ss.getD i 0 < (t : Int)) (bks : ∀ i, i < n → 0 ≤ ks.getD i 0 ∧ ks.getD i 0 < (t : Int)) :
    ((linL n t q b L l x (textsL 2 ss) (textsL 2 ks) (tkL n s q b d L)).2 = 0 ∧ ∃ ls B, IsCT n t q s (linL n t q b L l x (textsL 2 ss) (textsL 2 ks) (tkL n s q b d L)).1 ls B ∧ decI n t ls = lessI n (appI n t l (plusI n vs ss t)) ks t) ∨
    (linL n t q b L l x (textsL 2 ss) (textsL 2 ks) (tkL n s q b d L) = ([], 4) ∧ fitsB t q (mostE n t (q % (t : Int)).toNat (tnN n L b) : Nat) = false) := by
  have hn := p.nt.hn
  have ht := p.nt.t3
  have ht2 := p.nt.ht
  have h256 : ((256 ^ 2 : Nat) : Int) = 65536 := by decide
  have hst := lin_state p hb hb2 L hL s x d l ms vs hx hv hl (n / 2 - 1) (by omega)
  unfold linL
  rw [nums_texts ss n 2 t lss bss (by omega), nums_texts ks n 2 t lks bks (by omega)]
  have hle : moE n t (q % (t : Int)).toNat (tnN n L b) (n / 2 - 1) ≤ mostE n t (q % (t : Int)).toNat (tnN n L b) := by unfold mostE; omega
  generalize linS n t q b L l (tkL n s q b d L) x (n / 2 - 1) = S at hst ⊢
  rcases hst with ⟨h1, h2, h3, ls, B, h4, h5, h6⟩ | ⟨h1, h2⟩
  · rw [if_pos h1]
    have hls := lessI_lt n (appI n t l ss) ks (t : Int) (by omega)
    have hll := lessI_length n (appI n t l ss) ks (t : Int)
    have e1 : addPlainA n t q S.2.1 (textsL 2 (lessI n (appI n t l ss) ks t)) = addPlainL n t q S.2.1 (textsL 2 (lessI n (appI n t l ss) ks t)) := by
      unfold addPlainA
      rw [if_pos h4.ct, if_pos (okL_texts _ n 2 t hll hls (by omega))]
    rw [e1]
    have hc := came_addPlain p s S.2.1 ls (lessI n (appI n t l ss) ks t) B h4 hll hls
    rcases hc with ⟨k1, k2, k3⟩ | ⟨k1, k2⟩
    · refine Or.inl ⟨k2, _, _, k3, ?_⟩
      rw [dec_plus (by omega), h6, dec_enc p.nt _ hll hls, seen_sum n hn]
    · exact Or.inr ⟨k2, fits_no (by omega) (by omega) k1⟩
  · rw [if_neg (by rw [h1]; decide)]
    exact Or.inr ⟨rfl, fits_no (by omega) hle h2⟩

end Go.Proofs.YtcjhgbljhpflfabGreat

namespace Go.Proofs.YtcjhgbljhpflfabGreat
open Go.RowKit
set_option linter.unusedVariables false
set_option maxRecDepth 100000

set_option maxHeartbeats 4000000 in
theorem less_calls (n t : Nat) (q b : Int) (xs ys : List Int) (ga gb ca cb : Nat) (w : World) (hn : n ≤ 16) (ht : 1 ≤ t) (ht2 : t ≤ 1021) (hla : xs.length = n) (hlb : ys.length = n) (ha : Bnd xs 1048576) (hb : Bnd ys 1048576) (ia : IsI w ga xs) (ib : IsI w gb ys) :
    Calls Tryz.prog 70 #[.agg #[.int .i64 n, .int .i64 t, .int .i64 q, .int .i64 b], .slice (some ⟨ga, 0, none⟩) n ca, .slice (some ⟨gb, 0, none⟩) n cb, .int .i64 (-1)] w fun e w' => ∃ v, e = .returned v ∧ OwnI w' w.heap.size v (lessI n xs ys t) ∧ Up w w' := by
  have HA : Hid _ := ha
  have HB : Hid _ := hb
  have HLA : Hid _ := hla
  have HLB : Hid _ := hlb
  have ja := ia.up ((Up.refl _).alloc (.cells #[.int .i64 n, .int .i64 t, .int .i64 q, .int .i64 b] 28))
  have jb := ib.up ((Up.refl _).alloc (.cells #[.int .i64 n, .int .i64 t, .int .i64 q, .int .i64 b] 28))
  have hga : ga < w.heap.size + 1 := Nat.lt_succ_of_lt ia.1
  have hgb : gb < w.heap.size + 1 := Nat.lt_succ_of_lt ib.1
  have hgw : w.heap.size < w.heap.size + 1 := Nat.lt_succ_self _
  clear ha hb hla hlb
  go_enter Tryz.func70, Tryz.ntmps70
  go_wp2_with fail
  go_loopw [9, 10] (fun v j wr => ∃ k : Nat, k ≤ n ∧ j = .int .i64 (k : Int) ∧ OwnI wr (w.heap.size + 1) v ((List.range k).map (lessC xs ys t)) ∧ Up (w.alloc (.cells #[.int .i64 n, .int .i64 t, .int .i64 q, .int .i64 b] 28)) wr) (fun _ j _ => n - (intOf j).toNat)
  case atStart => exact ⟨0, Nat.zero_le _, rfl, World.ownsRow_nil _ _ _ _, Up.refl _⟩
  case round =>
    obtain ⟨k, hk, rfl, hown, hu⟩ := hrel
    obtain ⟨hc, hf⟩ := bcell hu
    by_cases hlt : k < n
    · have hca := (ja.up hu).2 k (by rw [HLA.out]; omega)
      have hcb := (jb.up hu).2 k (by rw [HLB.out]; omega)
      have hct : wr.cell? ⟨w.heap.size, 1, none⟩ = some (.int .i64 (t : Int)) := by rw [hc _ _ (by simp)]; simp
      have hct0 : wr.cell? ⟨w.heap.size, 0, none⟩ = some (.int .i64 (n : Int)) := by rw [hc _ _ (by simp)]; simp
      have hsz : w.heap.size + 1 ≤ wr.heap.size := by have := hu.size; simpa using this
      clear hc hf
      have hba := HA.out k
      have hbb := HB.out k
      have HR : Hid ((List.range (k + 1)).map (lessC xs ys t) = (List.range k).map (lessC xs ys t) ++ [(xs.getD k 0 - ys.getD k 0) % (t : Int)]) := map_range_succ _ _
      generalize xs.getD k 0 = x at hca hba HR
      generalize ys.getD k 0 = y at hcb hbb HR
      have e0 : IntKind.i64.wrap (-y) = -y := IntWalk.i64_in _ (by omega)
      have e1 : IntKind.i64.wrap (x + -y) = x - y := IntWalk.i64_in _ (by omega)
      have hi0 : (0 : Int) ≤ (k : Int) := by omega
      have hi1 : (k : Int) < (n : Int) := by omega
      have hcn : (wr.alloc (.cells #[.int .i64 ((x - y) % (t : Int))] 3)).drew.cell? ⟨wr.heap.size, 0, none⟩ = some (.int .i64 ((x - y) % (t : Int))) := by simp
      have hbs := Nat.le_trans hsz (Up.drew (Up.alloc (Up.refl wr) (.cells #[.int .i64 ((x - y) % (t : Int))] 3))).size
      go_wp2_with fail
      go_region_held3 (fun w' => w'.cell? ⟨ga, k, none⟩ = some (.int .i64 x) ∧ w'.cell? ⟨gb, k, none⟩ = some (.int .i64 y) ∧ w'.cell? ⟨w.heap.size, 1, none⟩ = some (.int .i64 (t : Int)))
        (first | go_keep | exact keepS3 hb4 hga hgb hgw (by assumption))
        ((first | (go_at_call 76; refine (keepMod_calls _ _ _ (by omega) (by omega)).mono ?_; rintro e w' ⟨rfl, rfl⟩) | (refine step_append_int (wr.alloc (.cells #[.int .i64 ((x - y) % (t : Int))] 3)).drew ((x - y) % (t : Int)) wr.heap.size rfl (.tmp 17) (.tmp 32) rfl _ u9 ((List.range k).map (lessC xs ys t)) rfl (hown.up (Up.drew (Up.alloc (Up.refl _) _))) rfl hcn (by simp; omega) hbs ?_; intro v4 w4 hown4 hg4 hb4)))
      have hu4 : Up (w.alloc (.cells #[.int .i64 n, .int .i64 t, .int .i64 q, .int .i64 b] 28)) w4 := Below.trans (Up.drew (Below.alloc hu hu.size _)) (by simpa using hb4)
      clear hcn hbs hca hcb hct hct0
      go_wp2_with fail
      go_roundw
      case rel => exact ⟨k + 1, by omega, by go_num, by rw [HR.out]; exact hown4, hu4⟩
      case measure => simp [intOf]; omega
    · obtain rfl : k = n := by omega
      go_wp2_with fail
      go_ret
      exact ⟨_, rfl, hown.base (by omega), ((Up.refl _).alloc _).trans hu⟩

/-- a layer's matrix (its rows end to end) times both rows, and its bias: the place i -/
def alC (n : Nat) (t : Int) (M B vs : List Int) (i : Nat) : Int := (B.getD i 0 + sumI (fun k => M.getD (i % (n / 2) * (n / 2) + k) 0 * vs.getD (i / (n / 2) * (n / 2) + k) 0) (n / 2)) % t
def alI (n : Nat) (t : Int) (M B vs : List Int) : List Int := (List.range n).map (alC n t M B vs)

theorem alI_length (n : Nat) (t : Int) (M B vs : List Int) : (alI n t M B vs).length = n := by simp [alI]

theorem al_facts (n : Nat) (hn : n = 4 ∨ n = 8 ∨ n = 16) : ∀ i, i < n → ∀ k, k < n / 2 → i % (n / 2) * (n / 2) + k < n / 2 * (n / 2) ∧ i / (n / 2) * (n / 2) + k < n := by
  rcases hn with rfl | rfl | rfl <;> decide

theorem sum_small (f : Nat → Int) (m : Int) (k : Nat) (hf : ∀ i, i < k → 0 ≤ f i ∧ f i ≤ m) : 0 ≤ sumI f k ∧ sumI f k ≤ k * m := by
  induction k with
  | zero => simp [sumI]
  | succ k ih =>
    have h := hf k (by omega)
    have := ih fun i hi => hf i (by omega)
    simp only [sumI]
    rw [show ((k + 1 : Nat) : Int) * m = k * m + m by rw [Int.natCast_add, Int.add_mul]; simp]
    omega

set_option maxHeartbeats 8000000 in
theorem applied_calls (n t : Nat) (q b : Int) (bd : Bool) (sh : Int) (M B vs : List Int) (gm dm cm gb cb gv cv : Nat) (w : World) (hn : n = 4 ∨ n = 8 ∨ n = 16) (ht : 0 < t) (ht2 : t ≤ 1021) (hdm : dm = n / 2 * (n / 2)) (hM : M.length = dm) (hB : B.length = n) (hl : vs.length = n)
    (bM : ∀ i, i < dm → 0 ≤ M.getD i 0 ∧ M.getD i 0 < (t : Int)) (bB : ∀ i, i < n → 0 ≤ B.getD i 0 ∧ B.getD i 0 < (t : Int)) (bv : ∀ i, i < n → 0 ≤ vs.getD i 0 ∧ vs.getD i 0 < (t : Int)) (im : IsI w gm M) (ib : IsI w gb B) (iv : IsI w gv vs) :
    Calls Tryz.prog 27 #[.agg #[.bool bd, .int .i64 sh, .slice (some ⟨gm, 0, none⟩) dm cm, .slice (some ⟨gb, 0, none⟩) n cb], .agg #[.int .i64 n, .int .i64 t, .int .i64 q, .int .i64 b], .slice (some ⟨gv, 0, none⟩) n cv] w fun e w' => ∃ v, e = .returned v ∧ OwnI w' w.heap.size v (alI n t M B vs) ∧ Up w w' := by
  have HDf : Hid (alI n t M B vs = (List.range n).map (alC n t M B vs)) := rfl
  generalize hdl : alI n t M B vs = ans at HDf
  clear hdl
  have HI : Hid _ := al_facts n hn
  have HLM : Hid _ := hM
  have HLB : Hid _ := hB
  have HL : Hid _ := hl
  have HBM : Hid _ := bM
  have HBB : Hid _ := bB
  have HBV : Hid _ := bv
  have HDI : Hid ((n : Int) / 2 = ((n / 2 : Nat) : Int)) := rfl
  have hn16 : n ≤ 16 := by omega
  have hd8 : n / 2 ≤ 8 := by omega
  have hd2 : 2 ≤ n / 2 := by omega
  have HDM : Hid _ := hdm
  have hdm64 : dm ≤ 64 := by rw [hdm]; exact Nat.mul_le_mul hd8 hd8
  have HSt : Hid (∀ i, (List.range (i + 1)).map (alC n t M B vs) = (List.range i).map (alC n t M B vs) ++ [(B.getD i 0 + sumI (fun k => M.getD (i % (n / 2) * (n / 2) + k) 0 * vs.getD (i / (n / 2) * (n / 2) + k) 0) (n / 2)) % (t : Int)]) := fun i => map_range_succ _ _
  have HSm : Hid (∀ i k, sumI (fun k => M.getD (i % (n / 2) * (n / 2) + k) 0 * vs.getD (i / (n / 2) * (n / 2) + k) 0) (k + 1) = sumI (fun k => M.getD (i % (n / 2) * (n / 2) + k) 0 * vs.getD (i / (n / 2) * (n / 2) + k) 0) k + M.getD (i % (n / 2) * (n / 2) + k) 0 * vs.getD (i / (n / 2) * (n / 2) + k) 0) := fun i k => rfl
  have HBd : Hid (∀ i k, i < n → k ≤ n / 2 → 0 ≤ sumI (fun k => M.getD (i % (n / 2) * (n / 2) + k) 0 * vs.getD (i / (n / 2) * (n / 2) + k) 0) k ∧ sumI (fun k => M.getD (i % (n / 2) * (n / 2) + k) 0 * vs.getD (i / (n / 2) * (n / 2) + k) 0) k ≤ k * 1042441) := fun i k hi hk => sum_small _ _ k fun j hj => by
    have h := HI.out i hi j (by omega)
    have h1 := HBM.out (i % (n / 2) * (n / 2) + j) (by rw [HDM.out]; exact h.1)
    have h2 := HBV.out (i / (n / 2) * (n / 2) + j) h.2
    refine ⟨Int.mul_nonneg h1.1 h2.1, ?_⟩
    have := Int.mul_le_mul (show M.getD (i % (n / 2) * (n / 2) + j) 0 ≤ 1021 by omega) (show vs.getD (i / (n / 2) * (n / 2) + j) 0 ≤ 1021 by omega) h2.1 (by omega)
    exact this
  clear hM hB hl bM bB bv hdm
  go_enter Tryz.func27, Tryz.ntmps27
  go_wp2_with fail
  rw [HDI.out]
  clear hn
  generalize n / 2 = d at hd8 hd2 HDI HDM HI HSt HSm HBd ⊢
  obtain ⟨W0, hW0⟩ : ∃ W, W = (w.alloc (.cells #[.bool bd, .int .i64 sh, .slice (some ⟨gm, 0, none⟩) dm cm, .slice (some ⟨gb, 0, none⟩) n cb] 56)).alloc (.cells #[.int .i64 n, .int .i64 t, .int .i64 q, .int .i64 b] 28) := ⟨_, rfl⟩
  have huW : Up w W0 := by rw [hW0]; exact ((Up.refl _).alloc _).alloc _
  have hC0 : W0.cell? ⟨w.heap.size + 1, 0, none⟩ = some (.int .i64 (n : Int)) := by rw [hW0]; simp
  have hC1 : W0.cell? ⟨w.heap.size + 1, 1, none⟩ = some (.int .i64 (t : Int)) := by rw [hW0]; simp
  have hC2 : W0.cell? ⟨w.heap.size, 2, none⟩ = some (.slice (some ⟨gm, 0, none⟩) dm cm) := by rw [hW0]; simp
  have hC3 : W0.cell? ⟨w.heap.size, 3, none⟩ = some (.slice (some ⟨gb, 0, none⟩) n cb) := by rw [hW0]; simp
  have HC : Hid _ := (⟨hC0, hC1, hC2, hC3⟩ : _ ∧ _ ∧ _ ∧ _)
  rw [← hW0]
  clear hW0 hC0 hC1 hC2 hC3
  have iv0 := iv.up huW
  have im0 := im.up huW
  have ib0 := ib.up huW
  clear iv im ib
  go_loopw [8, 9] (fun v si wr => ∃ i : Nat, i ≤ n ∧ si = .int .i64 (i : Int) ∧ OwnI wr W0.heap.size v ((List.range i).map (alC n t M B vs)) ∧ Up W0 wr) (fun _ si _ => n - (intOf si).toNat)
  case atStart => exact ⟨0, Nat.zero_le _, rfl, World.ownsRow_nil _ _ _ _, Up.refl _⟩
  case round =>
    obtain ⟨i, hi, rfl, hown, hu⟩ := hrel
    have hP0 := keepC hu HC.out.1
    have hP3 := keepC hu HC.out.2.2.2
    by_cases hin : i < n
    · have HSi : Hid _ := HSt.out i
      have hcb := (ib0.up hu).2 i (by rw [HLB.out]; omega)
      have hbB := HBB.out i hin
      generalize B.getD i 0 = bb at HSi hcb hbB
      have hi0 : (0 : Int) ≤ (i : Int) := by omega
      have hi1 : (i : Int) < (n : Int) := by omega
      go_wp2_with fail
      go_loopw [10, 11] (fun sn sk wy => ∃ k : Nat, k ≤ d ∧ sk = .int .i64 (k : Int) ∧ sn = .int .i64 (bb + sumI (fun k => M.getD (i % d * d + k) 0 * vs.getD (i / d * d + k) 0) k) ∧ Up wr wy) (fun _ sk _ => d - (intOf sk).toNat)
      case atStart => exact ⟨0, Nat.zero_le _, rfl, by simp [sumI], Up.refl _⟩
      case round =>
        obtain ⟨k, hk, rfl, rfl, hu3⟩ := hrel
        have hsb := HBd.out i k hin hk
        clear hP0 hP3 hcb
        by_cases hkd : k < d
        · have HSk : Hid _ := HSm.out i k
          have hII := HI.out i hin k hkd
          have hq1 : i / d ≤ 16 := Nat.le_trans (Nat.div_le_self _ _) (by omega)
          have hm1 : i % d < d := Nat.mod_lt _ (by omega)
          have e1 : IntKind.i64.wrap ((i : Int).tdiv (d : Int)) = ((i / d : Nat) : Int) := by rw [Int.tdiv_eq_ediv_of_nonneg (by omega), ← Int.natCast_ediv]; exact i64_nat _ (by omega)
          have e1' : IntKind.i64.wrap ((i : Int) / (d : Int)) = ((i / d : Nat) : Int) := by rw [← Int.natCast_ediv]; exact i64_nat _ (by omega)
          have e3 : (i : Int).tmod (d : Int) = ((i % d : Nat) : Int) := by rw [Int.tmod_eq_emod_of_nonneg (by omega), Int.natCast_emod]
          have hX : i / d * d ≤ 128 := Nat.mul_le_mul hq1 hd8
          have hY : i % d * d ≤ 8 * 8 := Nat.mul_le_mul (show i % d ≤ 8 by omega) hd8
          have e4 : IntKind.i64.wrap (((i / d : Nat) : Int) * (d : Int)) = ((i / d * d : Nat) : Int) := by rw [← Int.natCast_mul]; exact i64_nat _ (by omega)
          have e4' : IntKind.i64.wrap (((i % d : Nat) : Int) * (d : Int)) = ((i % d * d : Nat) : Int) := by rw [← Int.natCast_mul]; exact i64_nat _ (by omega)
          have e5 : IntKind.i64.wrap (((i / d * d : Nat) : Int) + (k : Int)) = ((i / d * d + k : Nat) : Int) := by rw [← Int.natCast_add]; exact i64_nat _ (by omega)
          have e5' : IntKind.i64.wrap (((i % d * d : Nat) : Int) + (k : Int)) = ((i % d * d + k : Nat) : Int) := by rw [← Int.natCast_add]; exact i64_nat _ (by omega)
          have hcm := (im0.up (hu.trans hu3)).2 (i % d * d + k) (by rw [HLM.out, HDM.out]; exact hII.1)
          have hcv := (iv0.up (hu.trans hu3)).2 (i / d * d + k) (by rw [HL.out]; exact hII.2)
          have hbM := HBM.out (i % d * d + k) (by rw [HDM.out]; exact hII.1)
          have hbV := HBV.out (i / d * d + k) hII.2
          have hII1 := hII.1
          rw [← HDM.out] at hII1
          have hII2 := hII.2
          clear hII
          generalize sumI (fun k => M.getD (i % d * d + k) 0 * vs.getD (i / d * d + k) 0) k = S at hsb HSk
          generalize i / d * d + k = I at e5 hcv hbV hII2 HSk
          generalize i % d * d + k = J at e5' hcm hbM hII1 HSk
          generalize i / d * d = X at e4 e5 HSk
          generalize i % d * d = Y at e4' e5' HSk
          generalize i % d = Z at e3 e4'
          generalize i / d = A at e1 e1' e4
          generalize M.getD J 0 = x at hcm hbM HSk
          generalize vs.getD I 0 = y at hcv hbV HSk
          have hxy0 : 0 ≤ x * y := Int.mul_nonneg hbM.1 hbV.1
          have hxy1 : x * y ≤ 1021 * 1021 := Int.mul_le_mul (by omega) (by omega) hbV.1 (by omega)
          have f1 : IntKind.i64.wrap (x * y) = x * y := IntWalk.i64_in _ (by omega)
          have f2 : IntKind.i64.wrap (bb + S + x * y) = bb + S + x * y := IntWalk.i64_in _ (by omega)
          have g0 : (0 : Int) ≤ (I : Int) := by omega
          have g1 : (I : Int) < (n : Int) := by omega
          have g2 : (0 : Int) ≤ (J : Int) := by omega
          have g3 : (J : Int) < (dm : Int) := by omega
          have ed1 : ¬ (d : Int) = 0 := by omega
          have ed2 : ¬ d = 0 := by omega
          have ed0 : ((d : Int) == 0) = false := beq_eq_false_iff_ne.2 ed1
          have hP2 := keepC (hu.trans hu3) HC.out.2.2.1
          go_wp2_with fail
          go_quiet (fail)
          have hu4 := Up.drewN (n := nq) hu3
          generalize wr.drewN nq = w6 at hu4 ⊢
          clear hP2 hcm hcv
          go_wp2_with fail
          go_roundw
          case rel => exact ⟨k + 1, by omega, by go_num, by rw [HSk.out, Int.add_assoc], hu4⟩
          case measure => simp [intOf]; omega
        · obtain rfl : k = d := by omega
          generalize sumI (fun k' => M.getD (i % k * k + k') 0 * vs.getD (i / k * k + k') 0) k = S at hsb HSi
          have hS1 : bb + S ≤ 1021 + 8 * 1042441 := by omega
          have hS0 : 0 ≤ bb + S := by omega
          have et1 : (bb + S).tmod (t : Int) = (bb + S) % (t : Int) := Int.tmod_eq_emod_of_nonneg hS0
          have ed1 : ¬ (t : Int) = 0 := by omega
          have ed2 : ¬ t = 0 := by omega
          have ed0 : ((t : Int) == 0) = false := beq_eq_false_iff_ne.2 ed1
          generalize (bb + S) % (t : Int) = R at et1 HSi
          have hP1 := keepC (hu.trans hu3) HC.out.2.1
          go_wp2_with (at_builtin; refine append_int _ _ rfl _ _ rfl _ _ _ rfl (hown.up hu3) rfl (by simp; omega) (hu.trans hu3).size ?_)
          intro v4 w4 hown4 hg4 hb4 _
          clear hown hg4 hP1
          go_wp2_with fail
          go_roundw
          case rel => exact ⟨i + 1, by omega, by go_num, by rw [HSi.out]; exact hown4, Below.trans (hu.trans hu3) hb4⟩
          case measure => simp [intOf]; omega
    · obtain rfl : i = n := by omega
      rw [← HDf.out] at hown
      go_wp2_with fail
      go_ret
      exact ⟨_, rfl, hown.base huW.le, huW.trans hu⟩

end Go.Proofs.YtcjhgbljhpflfabGreat

namespace Go.Proofs.YtcjhgbljhpflfabGreat
open Go.RowKit
set_option linter.unusedVariables false
set_option maxRecDepth 100000

/-- the greatest bound of the sum of the first i terms -/
def alE (n t R TN : Nat) : Nat → Nat
  | 0 => 0
  | i + 1 => moE n t R TN i

theorem alE_succ (n t R TN i : Nat) : alE n t R TN (i + 1) = alE n t R TN i + n * (t / 2) * (tuE R TN i + R) + R := by
  cases i with
  | zero => simp [alE, moE]
  | succ i => rfl

theorem tuE_succ (R TN i : Nat) : tuE R TN (i + 1) = tuE R TN i + R + TN := by
  unfold tuE; rw [Nat.succ_mul]; omega

theorem mostE_eq (n t R TN : Nat) (hn : 4 ≤ n) : mostE n t R TN = alE n t R TN (n / 2) + R := by
  unfold mostE
  rw [show n / 2 = (n / 2 - 1) + 1 by omega]
  rfl

theorem alE_le (n t R TN : Nat) (hn : n ≤ 16) (ht : t ≤ 1021) (hR : R ≤ 1021) (hT : TN ≤ 244800) (i : Nat) : tuE R TN i ≤ 2 + i * 250000 ∧ (i ≤ 8 → alE n t R TN i ≤ i * 20000000000) := by
  induction i with
  | zero => simp [tuE, alE]
  | succ i ih =>
    rw [tuE_succ, alE_succ]
    refine ⟨by omega, fun hi => ?_⟩
    have h1 := ih.2 (by omega)
    have h2 : n * (t / 2) * (tuE R TN i + R) ≤ 16 * 510 * 2010000 := Nat.mul_le_mul (Nat.mul_le_mul hn (by omega)) (by omega)
    omega

theorem mostE_le (n t R TN : Nat) (hn4 : 4 ≤ n) (hn : n ≤ 16) (ht : t ≤ 1021) (hR : R ≤ 1021) (hT : TN ≤ 244800) : mostE n t R TN ≤ 1125899906842624 := by
  rw [mostE_eq n t R TN hn4]
  have := (alE_le n t R TN hn ht hR hT (n / 2)).2 (by omega)
  omega

set_option maxHeartbeats 8000000 in
theorem most_calls (n t L : Nat) (q b : Int) (w : World) (p : GoodP n t q b) (hb1 : 1 ≤ b) (hb2 : b ≤ 8) (hL : DigOf q b L) :
    Calls Tryz.prog 75 #[.agg #[.int .i64 n, .int .i64 t, .int .i64 q, .int .i64 b]] w fun e w' => e = .returned (.int .i64 (mostE n t (q % (t : Int)).toNat (tnN n L b) : Nat)) ∧ Up w w' := by
  have hn := p.nt.hn
  have ht := p.nt.t3
  have ht2 := p.nt.ht
  have hq1 := p.q1
  have hq2 := p.q2
  have hL30 := hL.le hb1 hq2
  have hn4 : 4 ≤ n := by omega
  have hn16 : n ≤ 16 := by omega
  have hd8 : n / 2 ≤ 8 := by omega
  have HDI : Hid ((n : Int) / 2 = ((n / 2 : Nat) : Int)) := rfl
  have HLd : Hid _ := hL
  have hm := mod_bounds (show (0 : Int) < (t : Int) by omega) q
  have hR : q % (t : Int) = ((q % (t : Int)).toNat : Int) := by omega
  have hRb : (q % (t : Int)).toNat ≤ 1021 := by omega
  have eR : q.tmod (t : Int) = ((q % (t : Int)).toNat : Int) := by rw [Int.tmod_eq_emod_of_nonneg (by omega)]; exact hR
  generalize (q % (t : Int)).toNat = R at eR hRb
  have HDg : Hid (∀ W, Calls Tryz.prog 126 #[.agg #[.int .i64 n, .int .i64 t, .int .i64 q, .int .i64 b]] W fun e w' => e = .returned (.int .i64 L) ∧ Up W w') := fun W => keepDigits_calls L n t q b W hq1 hq2 hb1 hb2 HLd.out
  have hB1p := (pow_b b hb1 hb2).2.1
  have hB2p := (pow_b b hb1 hb2).2.2
  have hTb := tnN_le n L b (by omega) hL30 hb1 hb2
  have HE : Hid ((tnN n L b : Int) = (L : Int) * (n : Int) * ((2 : Int) ^ b.toNat - 1) * 2) := by
    show ((L * n * ((2 : Int) ^ b.toNat - 1).toNat * 2 : Nat) : Int) = _
    rw [Int.natCast_mul, Int.natCast_mul, Int.natCast_mul, show ((((2 : Int) ^ b.toNat - 1).toNat : Nat) : Int) = (2 : Int) ^ b.toNat - 1 by omega]
    rfl
  generalize tnN n L b = TN at HE hTb ⊢
  have HAs : Hid (∀ i, alE n t R TN (i + 1) = alE n t R TN i + n * (t / 2) * (tuE R TN i + R) + R) := fun i => alE_succ n t R TN i
  have HTs : Hid (∀ i, tuE R TN (i + 1) = tuE R TN i + R + TN) := fun i => tuE_succ R TN i
  obtain ⟨mo, hmo⟩ : ∃ mo, mo = mostE n t R TN := ⟨_, rfl⟩
  rw [← hmo]
  have HEnd : Hid (mo = alE n t R TN (n / 2) + R) := show _ = _ by rw [hmo]; exact mostE_eq n t R TN hn4
  clear hmo
  have HLe : Hid _ := alE_le n t R TN hn16 (by omega) hRb hTb
  have hLn : (L : Int) * (n : Int) ≤ 30 * 16 := Int.mul_le_mul (by omega) (by omega) (by omega) (by omega)
  have hLn0 : 0 ≤ (L : Int) * (n : Int) := Int.mul_nonneg (by omega) (by omega)
  have e1 : IntKind.i64.wrap ((L : Int) * (n : Int)) = (L : Int) * (n : Int) := IntWalk.i64_in _ (by omega)
  obtain ⟨M, hM⟩ : ∃ M, M = (L : Int) * (n : Int) := ⟨_, rfl⟩
  rw [← hM] at hLn hLn0 HE
  replace e1 : IntKind.i64.wrap ((L : Int) * (n : Int)) = M := by rw [e1, hM]
  have hMB : M * ((2 : Int) ^ b.toNat - 1) ≤ 480 * 255 := Int.mul_le_mul (by omega) (by omega) (by omega) (by omega)
  have hMB0 : 0 ≤ M * ((2 : Int) ^ b.toNat - 1) := Int.mul_nonneg (by omega) (by omega)
  obtain ⟨K, hK⟩ : ∃ K, K = M * ((2 : Int) ^ b.toNat - 1) := ⟨_, rfl⟩
  rw [← hK] at hMB hMB0 HE
  have e2 : IntKind.i64.wrap (M * ((2 : Int) ^ b.toNat - 1)) = K := by rw [← hK]; exact IntWalk.i64_in _ (by omega)
  have e4 : IntKind.i64.wrap (K * 2) = (TN : Int) := by rw [HE.out]; exact IntWalk.i64_in _ (by omega)
  have e0 : IntKind.i64.wrap ((2 : Int) ^ b.toNat) = 2 ^ b.toNat := IntWalk.i64_in _ (by omega)
  have e3 : IntKind.i64.wrap ((2 : Int) ^ b.toNat - 1) = 2 ^ b.toNat - 1 := IntWalk.i64_in _ (by omega)
  have EQ : Hid (IntKind.i64.wrap ((L : Int) * (n : Int)) = M ∧ IntKind.i64.wrap (M * ((2 : Int) ^ b.toNat - 1)) = K ∧ IntKind.i64.wrap (K * 2) = (TN : Int) ∧ IntKind.i64.wrap ((2 : Int) ^ b.toNat) = 2 ^ b.toNat ∧ IntKind.i64.wrap ((2 : Int) ^ b.toNat - 1) = 2 ^ b.toNat - 1) := ⟨e1, e2, e4, e0, e3⟩
  obtain ⟨A, hA⟩ : ∃ A : Nat, A = n * (t / 2) := ⟨_, rfl⟩
  have hA2 : A ≤ 16 * 510 := by rw [hA]; exact Nat.mul_le_mul hn16 (by omega)
  have a1 : IntKind.i64.wrap ((n : Int) * ((t : Int) / 2)) = (A : Int) := by rw [show (n : Int) * ((t : Int) / 2) = (A : Int) by rw [hA, Int.natCast_mul]; rfl]; exact IntWalk.i64_in _ (by omega)
  have a0 : IntKind.i64.wrap ((t : Int).tdiv 2) = (t : Int) / 2 := IntWalk.i64_quo _ _ (by omega)
  rw [← hA] at HAs
  have HA1 : Hid _ := (⟨a0, a1⟩ : _ ∧ _)
  have et1 : ¬ (t : Int) = 0 := by omega
  have et2 : ¬ t = 0 := by omega
  have et0 : ((t : Int) == 0) = false := beq_eq_false_iff_ne.2 et1
  clear hm hR hL hM hK e1 e2 e3 e4 e0 HE hn a0 a1 hA p
  go_enter Tryz.func75, Tryz.ntmps75
  go_wp2_with fail
  clear eR et0 et1 et2
  obtain ⟨W0, hW0⟩ : ∃ W, W = w.alloc (.cells #[.int .i64 n, .int .i64 t, .int .i64 q, .int .i64 b] 28) := ⟨_, rfl⟩
  have huW : Up w W0 := by rw [hW0]; exact (Up.refl _).alloc _
  have hC0 : W0.cell? ⟨w.heap.size, 0, none⟩ = some (.int .i64 (n : Int)) := by rw [hW0]; simp
  have hC1 : W0.cell? ⟨w.heap.size, 1, none⟩ = some (.int .i64 (t : Int)) := by rw [hW0]; simp
  have hC2 : W0.cell? ⟨w.heap.size, 2, none⟩ = some (.int .i64 q) := by rw [hW0]; simp
  have hC3 : W0.cell? ⟨w.heap.size, 3, none⟩ = some (.int .i64 b) := by rw [hW0]; simp
  have HC : Hid _ := (⟨hC0, hC1, hC2, hC3⟩ : _ ∧ _ ∧ _ ∧ _)
  rw [← hW0]
  clear hW0 hC0 hC1 hC2 hC3
  go_loopw [4, 5, 6] (fun sn sa si wr => ∃ i Nn Al : Nat, i ≤ n / 2 ∧ sn = .int .i64 (Nn : Int) ∧ sa = .int .i64 (Al : Int) ∧ si = .int .i64 (i : Int) ∧ Hid (Nn = tuE R TN i) ∧ Hid (Al = alE n t R TN i) ∧ Up W0 wr) (fun _ _ si _ => n / 2 - (intOf si).toNat)
  case atStart => exact ⟨0, 2, 0, Nat.zero_le _, rfl, rfl, rfl, show _ = _ by simp [tuE], show _ = _ from rfl, Up.refl _⟩
  case round =>
    obtain ⟨i, Nn, Al, hi, rfl, rfl, rfl, HNn, HAl, hu⟩ := hrel
    have hle := HLe.out i
    rw [← HNn.out, ← HAl.out] at hle
    have hN := hle.1
    have hAl := hle.2 (by omega)
    clear hle
    have hP0 := keepC hu HC.out.1
    have hP1 := keepC hu HC.out.2.1
    have hP2 := keepC hu HC.out.2.2.1
    have hP3 := keepC hu HC.out.2.2.2
    by_cases hid : i < n / 2
    · have c1 : (i : Int) < (n : Int) / 2 := by omega
      have c2 : decide ((i : Int) < (n : Int) / 2) = true := decide_eq_true c1
      have HT1 : Hid (tuE R TN (i + 1) = Nn + R + TN) := show _ = _ by rw [HTs.out, ← HNn.out]
      have HA2 : Hid (alE n t R TN (i + 1) = Al + A * (Nn + R) + R) := show _ = _ by rw [HAs.out, ← HNn.out, ← HAl.out]
      obtain ⟨T, hT⟩ : ∃ T : Nat, T = A * (Nn + R) := ⟨_, rfl⟩
      rw [← hT] at HA2
      have hT2 : T ≤ 8160 * 2010000 := by rw [hT]; exact Nat.mul_le_mul hA2 (by omega)
      have f1 : IntKind.i64.wrap ((Nn : Int) + (R : Int)) = (Nn : Int) + (R : Int) := IntWalk.i64_in _ (by omega)
      have f2 : IntKind.i64.wrap ((A : Int) * ((Nn : Int) + (R : Int))) = (T : Int) := by rw [show (A : Int) * ((Nn : Int) + (R : Int)) = (T : Int) by rw [hT, Int.natCast_mul, Int.natCast_add]]; exact IntWalk.i64_in _ (by omega)
      have f3 : IntKind.i64.wrap ((Al : Int) + (T : Int)) = (Al : Int) + (T : Int) := IntWalk.i64_in _ (by omega)
      have f4 : IntKind.i64.wrap ((Al : Int) + (T : Int) + (R : Int)) = (Al : Int) + (T : Int) + (R : Int) := IntWalk.i64_in _ (by omega)
      have f5 : IntKind.i64.wrap ((Nn : Int) + (R : Int) + (TN : Int)) = (Nn : Int) + (R : Int) + (TN : Int) := IntWalk.i64_in _ (by omega)
      obtain ⟨a0, a1⟩ := HA1.out
      obtain ⟨e1, e2, e4, e0, e3⟩ := EQ.out
      clear hT
      go_wp2_with fail
      go_region_held3 (fun w' => w'.cell? ⟨w.heap.size, 0, none⟩ = some (.int .i64 (n : Int)) ∧ w'.cell? ⟨w.heap.size, 1, none⟩ = some (.int .i64 (t : Int)) ∧ w'.cell? ⟨w.heap.size, 2, none⟩ = some (.int .i64 q) ∧ w'.cell? ⟨w.heap.size, 3, none⟩ = some (.int .i64 b))
        (first | go_keep | exact keepC4 hud (by assumption))
        ((first | (go_at_call 126; refine Calls.mono (HDg.out _) ?_; rintro e wd ⟨rfl, hud⟩)))
      have hur : Up wr wd := Up.trans (Up.drew (Up.refl _)) hud
      clear e0 e1 e2 e3 e4 a0 a1 f1 f2 f3 f4 f5 hP0 hP1 hP2 hP3 hud
      go_wp2_with fail
      go_roundw
      case rel => exact ⟨i + 1, Nn + R + TN, Al + T + R, by omega, by go_num, by go_num, by go_num, HT1.out.symm, HA2.out.symm, hu.trans hur⟩
      case measure => simp [intOf]; omega
    · have hie : i = n / 2 := by omega
      have c1 : ¬ (i : Int) < (n : Int) / 2 := by omega
      have c2 : decide ((i : Int) < (n : Int) / 2) = false := decide_eq_false c1
      have hEnd : mo = Al + R := by rw [HEnd.out, HAl.out, hie]
      clear hie
      have f1 : IntKind.i64.wrap ((Al : Int) + (R : Int)) = ((Al + R : Nat) : Int) := by rw [IntWalk.i64_in _ (by omega)]; omega
      go_wp2_with fail
      go_ret
      exact ⟨ret_int (by omega), huW.trans hu⟩

end Go.Proofs.YtcjhgbljhpflfabGreat
