/-
  A session of a net of layers: what it begins with, what the layers come to one by one. No walk here.
  A session of a net of layers, and Plain of it, as they are called from the statement Whole.
-/
import Derived.Test.YtcjhgbljhpflfabGreatKeepWg
import Derived.Test.YtcjhgbljhpflfabGreatCodePl
namespace Go.Proofs.YtcjhgbljhpflfabGreat
open Go.RowKit
set_option linter.unusedVariables false
set_option maxRecDepth 100000

theorem LayAt.mut {w w' : World} {H o n X : Nat} {l : Lay} {D : Dat} {j r j' r' : Nat} {s s' : St} (h : LayAt w H o n l) (a : SessAt w X D j r s) (a' : SessAt w' X D j' r' s') (m : Mut (fun k => k = X) w w') (hH : H ≠ X) : LayAt w' H o n l := by
  obtain ⟨gm, cm, gb, cb, c0, c1, c2, c3, im, ib⟩ := h
  exact ⟨gm, cm, gb, cb, m.cell c0 hH, m.cell c1 hH, m.cell c2 hH, m.cell c3 hH, im.step a a' m, ib.step a a' m⟩

/-- the session's fixed part of a case -/
def datOf (n t : Nat) (q b : Int) (L : Nat) (key dk : List UInt8) (F : Nat → Lay) (K : Nat) : Dat := ⟨n, t, q, b, L, key, tkL n (secI key n) q b dk L, netL (netOf F K)⟩

theorem datOf_N (n t : Nat) (q b : Int) (L : Nat) (key dk : List UInt8) (F : Nat → Lay) (K : Nat) (hK : K ≤ 3) : (datOf n t q b L key dk F K).N = K := by
  show byteL (netL (netOf F K)) 1 = K
  rw [net_byte1 _ (by rw [netOf_length]; exact hK), netOf_length]

theorem netOf_sizes {n t : Nat} (F : Nat → Lay) (K : Nat) (hF : ∀ i, i < K → (F i).Ok n t) : ∀ x ∈ netOf F K, x.length = sizN n := netOf_mem F K (fun x => x.length = sizN n) fun i hi => (hF i hi).len

theorem datOf_lay (n t : Nat) (q b : Int) (L : Nat) (key dk : List UInt8) (F : Nat → Lay) (K : Nat) (hF : ∀ i, i < K → (F i).Ok n t) (j : Nat) (hj : j < K) : layOf n (datOf n t q b L key dk F K).net j = (F j).text := by
  show layOf n (netL (netOf F K)) j = _
  rw [net_lay n _ (netOf_sizes F K hF) j (by rw [netOf_length]; exact hj), netOf_at F K j hj]

theorem datOf_ok {n t : Nat} {q b : Int} (p : GoodP n t q b) (hb1 : 1 ≤ b) (hb2 : b ≤ 8) {L : Nat} (hL : DigOf q b L) (key dk : List UInt8) (hsec : secB key n = true) (F : Nat → Lay) (K : Nat) (h1 : 1 ≤ K) (h3 : K ≤ 3) (hF : ∀ i, i < K → (F i).Ok n t) : (datOf n t q b L key dk F K).Ok := by
  have hn := p.nt.half
  have ht2 := p.nt.ht
  have hq1 := p.q1
  have hq2 := p.q2
  refine ⟨p.nt, p.q1, p.q2, hb1, hb2, p.good, p.fit, hL, hsec, ?_, ?_⟩
  · exact tn_ok n _ q b dk L (by omega) (by omega) (by omega)
  · exact net_ok n t _ (by rw [netOf_length]; exact h1) (by rw [netOf_length]; exact h3) (netOf_mem F K (fun x => layB x n t = true) fun i hi => (hF i hi).lay (by omega)) (netOf_sizes F K hF)

/-- the values layer by layer -/
theorem play_next (n t : Nat) (hn : n = 4 ∨ n = 8 ∨ n = 16) (ht2 : t ≤ 1021) (l : Lay) (ol : l.Ok n t) (net : List UInt8) (V : List Int) (i : Nat) (h : layOf n net i = l.text) : playI n t net V (i + 1) = beI n t l.bd l.s (alI n t l.M l.B (playI n t net V i)) := by
  show bentI n t (layOf n net i) (appI n t (layOf n net i) (playI n t net V i)) = _
  rw [h, lay_app n t l.bd l.s l.M l.B _ hn ht2 ol.hM ol.hB ol.bM ol.bB, lay_bent _ _ _ _ _ _ _ ol.hs]

theorem plus_zero (n t : Nat) (V : List Int) (hl : V.length = n) (hb : ∀ i, i < n → 0 ≤ V.getD i 0 ∧ V.getD i 0 < (t : Int)) : plusI n V (zeroI n) t = V := by
  refine list_same (n := n) (plusI_length _ _ _ _) hl fun i hi => ?_
  rw [plusI_at n _ _ _ i hi, zeroI, getD_range hi, Int.add_zero]
  exact Int.emod_eq_of_lt (hb i hi).1 (hb i hi).2

/-- what a session begins with: the values are its shares together -/
theorem begin_sum (n t : Nat) (V : List Int) (hl : V.length = n) (ht2 : t ≤ 1021) (hb : ∀ i, i < n → 0 ≤ V.getD i 0 ∧ V.getD i 0 < (t : Int)) : plusI n (St.begin n (textsL 2 V)).cl (St.begin n (textsL 2 V)).sv t = V := by
  have h256 : ((256 ^ 2 : Nat) : Int) = 65536 := by decide
  show plusI n (numsL (textsL 2 V) 2 n) (zeroI n) t = V
  rw [nums_texts V n 2 t hl hb (by omega)]
  exact plus_zero n t V hl hb

end Go.Proofs.YtcjhgbljhpflfabGreat

namespace Go.Proofs.YtcjhgbljhpflfabGreat
open Go.RowKit
set_option linter.unusedVariables false
set_option maxRecDepth 100000

theorem netL_size {n t : Nat} (hn : n = 4 ∨ n = 8 ∨ n = 16) (F : Nat → Lay) (K : Nat) (h3 : K ≤ 3) (hF : ∀ i, i < K → (F i).Ok n t) : (⟨(netL (netOf F K)).toArray⟩ : ByteArray).size ≤ maxLen := by
  show (netL (netOf F K)).toArray.size ≤ _
  rw [List.size_toArray, netL, List.length_append, flat_len (sizN n) _ (netOf_sizes F K hF), netOf_length]
  have h1 := sizN_le n hn
  have h2 := Nat.mul_le_mul h3 h1
  simp only [List.length_cons, List.length_nil]
  unfold maxLen
  omega

theorem new_keep {n t : Nat} {q b : Int} (p : GoodP n t q b) (hb1 : 1 ≤ b) (hb2 : b ≤ 8) {L : Nat} (hL : DigOf q b L) (key dk : List UInt8) (hsec : secB key n = true) (hks : (⟨key.toArray⟩ : ByteArray).size ≤ maxLen) (F : Nat → Lay) (K : Nat) (h1 : 1 ≤ K) (h3 : K ≤ 3) (hF : ∀ i, i < K → (F i).Ok n t) (V : List Int) (hVl : V.length = n) (hVb : ∀ i, i < n → 0 ≤ V.getD i 0 ∧ V.getD i 0 < (t : Int)) (W : World) :
    Calls Tryz.prog 19 #[.agg #[.int .i64 n, .int .i64 t, .int .i64 q, .int .i64 b], .string ⟨(netL (netOf F K)).toArray⟩, .string ⟨key.toArray⟩, .string ⟨(tkL n (secI key n) q b dk L).toArray⟩, .string ⟨(textsL 2 V).toArray⟩] W fun r w' => ∃ X, r = .returned (.tuple #[.pointer (some ⟨X, 0, none⟩), .int .i64 0]) ∧ W.heap.size ≤ X ∧ SessAt w' X (datOf n t q b L key dk F K) 0 0 (St.begin n (textsL 2 V)) ∧ Up W w' := by
  have h256 : ((256 ^ 2 : Nat) : Int) = 65536 := by decide
  have hn := p.nt.hn
  have ht2 := p.nt.ht
  have hq2 := p.q2
  have := New_ok (datOf n t q b L key dk F K) (datOf_ok p hb1 hb2 hL key dk hsec F K h1 h3 hF) ⟨(netL (netOf F K)).toArray⟩ ⟨key.toArray⟩ ⟨(tkL n (secI key n) q b dk L).toArray⟩ ⟨(textsL 2 V).toArray⟩ W (netL_size hn F K h3 hF) hks (tk_size _ _ _ _ _ _ (by omega) (hL.le hb1 hq2)) (size_texts V n hVl (by omega)) (bytes_back _) (bytes_back _) (bytes_back _) (by rw [bytes_back]; exact okL_texts V n 2 t hVl hVb (by omega))
  rw [bytes_back] at this
  exact this

theorem plain_keep {n t : Nat} {q b : Int} (p : GoodP n t q b) (F : Nat → Lay) (K : Nat) (h1 : 1 ≤ K) (h3 : K ≤ 3) (hF : ∀ i, i < K → (F i).Ok n t) (V : List Int) (hVl : V.length = n) (hVb : ∀ i, i < n → 0 ≤ V.getD i 0 ∧ V.getD i 0 < (t : Int)) (W : World) :
    Calls Tryz.prog 23 #[.agg #[.int .i64 n, .int .i64 t, .int .i64 q, .int .i64 b], .string ⟨(netL (netOf F K)).toArray⟩, .string ⟨(textsL 2 V).toArray⟩] W fun e w' => e = .returned (.tuple #[.string ⟨(textsL 2 (playI n t (netL (netOf F K)) V K)).toArray⟩, .int .i64 0]) ∧ Up W w' := by
  have h256 : ((256 ^ 2 : Nat) : Int) = 65536 := by decide
  have hn := p.nt.hn
  have ht2 := p.nt.ht
  have e : plainL n t (netL (netOf F K)) (textsL 2 V) = textsL 2 (playI n t (netL (netOf F K)) V K) := by
    unfold plainL
    rw [nums_texts V n 2 t hVl hVb (by omega), net_byte1 _ (by rw [netOf_length]; exact h3), netOf_length]
  rw [← e]
  have := Plain_ok n t q b ⟨(netL (netOf F K)).toArray⟩ ⟨(textsL 2 V).toArray⟩ W (netL_size hn F K h3 hF) (size_texts V n hVl (by omega)) p.nt p.good (by rw [bytes_back]; exact net_ok n t _ (by rw [netOf_length]; exact h1) (by rw [netOf_length]; exact h3) (netOf_mem F K (fun x => layB x n t = true) fun i hi => (hF i hi).lay (by omega)) (netOf_sizes F K hF)) (by rw [bytes_back]; exact okL_texts V n 2 t hVl hVb (by omega))
  rw [bytes_back, bytes_back] at this
  exact this

end Go.Proofs.YtcjhgbljhpflfabGreat
