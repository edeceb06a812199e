/-
  Walks: the shares of a session, of the statements without the document's answer.
  A layer's four steps in a session: what they come to, and what they leave as it was. No walk here.
-/
import Derived.Test.YtcjhgbljhpflfabGreatKeepWb
import Derived.Test.YtcjhgbljhpflfabGreatKeepL
import Derived.Test.YtcjhgbljhpflfabGreatKeepWk
import Derived.Test.YtcjhgbljhpflfabGreatCodeSn
import Derived.Test.YtcjhgbljhpflfabGreatKeepLy
import Derived.Test.YtcjhgbljhpflfabGreatCodeLe
namespace Go.Proofs.YtcjhgbljhpflfabGreat
open Go.RowKit
set_option linter.unusedVariables false
set_option maxRecDepth 100000

theorem both_row (n t : Nat) (q b : Int) (xs ys : List Int) (ga gb ca cb : Nat) (w : World) (hn4 : 4 ≤ n) (hn : n ≤ 16) (ht : 1 ≤ t) (ht2 : t ≤ 1021) (hla : xs.length = n) (hlb : ys.length = n) (sa : ∀ i, i < n → 0 ≤ xs.getD i 0 ∧ xs.getD i 0 < (t : Int)) (sb : ∀ i, i < n → 0 ≤ ys.getD i 0 ∧ ys.getD i 0 < (t : Int)) (ia : IsI w ga xs) (ib : IsI w gb ys) :
    Calls Tryz.prog 70 #[.agg #[.int .i64 n, .int .i64 t, .int .i64 q, .int .i64 b], .slice (some ⟨ga, 0, none⟩) n ca, .slice (some ⟨gb, 0, none⟩) n cb, .int .i64 1] w fun e w' => ∃ gp cp : Nat, e = .returned (.slice (some ⟨gp, 0, none⟩) n cp) ∧ IsI w' gp (plusI n xs ys t) ∧ Up w w' := by
  refine (both_calls n t q b xs ys ga gb ca cb w hn ht ht2 hla hlb (bnd_small xs n t hla (by omega) (by omega) sa) (bnd_small ys n t hlb (by omega) (by omega) sb) ia ib).mono ?_
  rintro e w' ⟨v, rfl, ho, hu⟩
  obtain ⟨gp, cp, rfl, _, ip⟩ := ho.is (ne_nil_of_length (plusI_length _ _ _ _) (by omega))
  rw [plusI_length]
  exact ⟨gp, cp, rfl, ip, hu⟩

theorem less_row (n t : Nat) (q b : Int) (xs ys : List Int) (ga gb ca cb : Nat) (w : World) (hn4 : 4 ≤ n) (hn : n ≤ 16) (ht : 1 ≤ t) (ht2 : t ≤ 1021) (hla : xs.length = n) (hlb : ys.length = n) (sa : ∀ i, i < n → 0 ≤ xs.getD i 0 ∧ xs.getD i 0 < (t : Int)) (sb : ∀ i, i < n → 0 ≤ ys.getD i 0 ∧ ys.getD i 0 < (t : Int)) (ia : IsI w ga xs) (ib : IsI w gb ys) :
    Calls Tryz.prog 70 #[.agg #[.int .i64 n, .int .i64 t, .int .i64 q, .int .i64 b], .slice (some ⟨ga, 0, none⟩) n ca, .slice (some ⟨gb, 0, none⟩) n cb, .int .i64 (-1)] w fun e w' => ∃ gp cp : Nat, e = .returned (.slice (some ⟨gp, 0, none⟩) n cp) ∧ IsI w' gp (lessI n xs ys t) ∧ Up w w' := by
  refine (less_calls n t q b xs ys ga gb ca cb w hn ht ht2 hla hlb (bnd_small xs n t hla (by omega) (by omega) sa) (bnd_small ys n t hlb (by omega) (by omega) sb) ia ib).mono ?_
  rintro e w' ⟨v, rfl, ho, hu⟩
  obtain ⟨gp, cp, rfl, _, ip⟩ := ho.is (ne_nil_of_length (lessI_length _ _ _ _) (by omega))
  rw [lessI_length]
  exact ⟨gp, cp, rfl, ip, hu⟩

theorem applied_row (n t : Nat) (q b : Int) (bd : Bool) (sh : Int) (M B vs : List Int) (gm dm cm gb cb gv cv : Nat) (w : World) (hn : n = 4 ∨ n = 8 ∨ n = 16) (ht : 0 < t) (ht2 : t ≤ 1021) (hdm : dm = n / 2 * (n / 2)) (hM : M.length = dm) (hB : B.length = n) (hl : vs.length = n)
    (bM : ∀ i, i < dm → 0 ≤ M.getD i 0 ∧ M.getD i 0 < (t : Int)) (bB : ∀ i, i < n → 0 ≤ B.getD i 0 ∧ B.getD i 0 < (t : Int)) (bv : ∀ i, i < n → 0 ≤ vs.getD i 0 ∧ vs.getD i 0 < (t : Int)) (im : IsI w gm M) (ib : IsI w gb B) (iv : IsI w gv vs) :
    Calls Tryz.prog 27 #[.agg #[.bool bd, .int .i64 sh, .slice (some ⟨gm, 0, none⟩) dm cm, .slice (some ⟨gb, 0, none⟩) n cb], .agg #[.int .i64 n, .int .i64 t, .int .i64 q, .int .i64 b], .slice (some ⟨gv, 0, none⟩) n cv] w fun e w' => ∃ gp cp : Nat, e = .returned (.slice (some ⟨gp, 0, none⟩) n cp) ∧ IsI w' gp (alI n t M B vs) ∧ Up w w' := by
  refine (applied_calls n t q b bd sh M B vs gm dm cm gb cb gv cv w hn ht ht2 hdm hM hB hl bM bB bv im ib iv).mono ?_
  rintro e w' ⟨v, rfl, ho, hu⟩
  obtain ⟨gp, cp, rfl, _, ip⟩ := ho.is (ne_nil_of_length (alI_length _ _ _ _ _) (by omega))
  rw [alI_length]
  exact ⟨gp, cp, rfl, ip, hu⟩

theorem values_row (n t : Nat) (q b : Int) (s : ByteArray) (w : World) (hs : s.size ≤ maxLen) (hn4 : 4 ≤ n) (hn : n ≤ 16) (ht : 1 ≤ t) (ht2 : t ≤ 1021) :
    Calls Tryz.prog 17 #[.agg #[.int .i64 n, .int .i64 t, .int .i64 q, .int .i64 b], .string s] w fun e w' => ∃ gp cp : Nat, e = .returned (.slice (some ⟨gp, 0, none⟩) n cp) ∧ IsI w' gp (valsI n t s.data.toList) ∧ Up w w' := by
  refine (values_calls n t q b s w hs hn ht ht2).mono ?_
  rintro e w' ⟨v, rfl, ho, hu⟩
  obtain ⟨gp, cp, rfl, _, ip⟩ := ho.is (ne_nil_of_length (valsI_length _ _ _) (by omega))
  rw [valsI_length]
  exact ⟨gp, cp, rfl, ip, hu⟩

theorem bent_row (n t : Nat) (q b : Int) (bd : Bool) (s : Nat) (x2 x3 : Value) (vs : List Int) (gv cv : Nat) (w : World) (hs : s < 8) (hn4 : 4 ≤ n) (hn : n ≤ 16) (ht : 1 ≤ t) (ht2 : t ≤ 1021) (hl : vs.length = n) (hv : ∀ i, i < n → 0 ≤ vs.getD i 0 ∧ vs.getD i 0 < (t : Int)) (iv : IsI w gv vs) :
    Calls Tryz.prog 26 #[.agg #[.bool bd, .int .i64 (s : Int), x2, x3], .agg #[.int .i64 n, .int .i64 t, .int .i64 q, .int .i64 b], .slice (some ⟨gv, 0, none⟩) n cv] w fun e w' => ∃ gp cp : Nat, e = .returned (.slice (some ⟨gp, 0, none⟩) n cp) ∧ IsI w' gp (beI n t bd s vs) ∧ Up w w' := by
  refine (layBent_calls n t q b bd s x2 x3 vs gv cv w hs hn ht ht2 hl hv iv).mono ?_
  rintro e w' ⟨v, rfl, ho, hu⟩
  obtain ⟨gp, cp, rfl, _, ip⟩ := ho.is (ne_nil_of_length (beI_length _ _ _ _ _) (by omega))
  rw [beI_length]
  exact ⟨gp, cp, rfl, ip, hu⟩

theorem vals_mask (n : Nat) (t : Int) (l : List UInt8) : valsI n t l = maskI n t l := by
  unfold valsI maskI
  refine List.map_congr_left fun i _ => ?_
  unfold valC
  simp [numL]

theorem vals_texts (n t : Nat) (xs : List Int) (hl : xs.length = n) (ht2 : t ≤ 1021) (hb : ∀ i, i < n → 0 ≤ xs.getD i 0 ∧ xs.getD i 0 < (t : Int)) : valsI n t (textsL 2 xs) = xs := by
  have h256 : ((256 ^ 2 : Nat) : Int) = 65536 := by decide
  refine list_same (n := n) (valsI_length _ _ _) hl fun i hi => ?_
  have h := hb i hi
  rw [vals_mask, maskI, getD_range hi]
  have e := numsL_getD (textsL 2 xs) 2 n i hi
  rw [nums_texts xs n 2 t hl hb (by omega), Nat.mul_comm i 2] at e
  rw [← e]
  exact Int.emod_eq_of_lt h.1 h.2

set_option maxHeartbeats 4000000 in
theorem shares_box (g X : Nat) (D : Dat) (j r : Nat) (s : St) (vs : List Int) (gv cv : Nat) (w : World) (O : D.Ok) (hs : s.Ok D r) (hX : SessAt w X D j r s) (hB : BoxAt w g D.n D.t D.q D.b D.key) (hv : plusI D.n s.cl s.sv D.t = vs) (iv : IsI w gv vs) :
    Calls Tryz.prog 22 #[.pointer (some ⟨g, 0, none⟩), .pointer (some ⟨X, 0, none⟩), .slice (some ⟨gv, 0, none⟩) D.n cv] w fun e w' => e = .returned (.tuple #[]) ∧ Up w w' := by
  have hn := O.nt.hn
  have ht := O.nt.t3
  have ht2 := O.nt.ht
  have hn4 : 4 ≤ D.n := by omega
  have hn16 : D.n ≤ 16 := by omega
  have HSh : Hid _ := Shares_calls X D j r s w O hs hX
  have HV1 : Hid (∀ W, Calls Tryz.prog 17 #[.agg #[.int .i64 D.n, .int .i64 D.t, .int .i64 D.q, .int .i64 D.b], .string ⟨(textsL 2 s.cl).toArray⟩] W fun e w' => ∃ gp cp : Nat, e = .returned (.slice (some ⟨gp, 0, none⟩) D.n cp) ∧ IsI w' gp s.cl ∧ Up W w') := fun W => by
    have := values_row D.n D.t D.q D.b ⟨(textsL 2 s.cl).toArray⟩ W (size_texts s.cl D.n hs.lc (by omega)) hn4 hn16 (by omega) (by omega)
    rw [bytes_back, vals_texts D.n D.t s.cl hs.lc (by omega) hs.bc] at this
    exact this
  have HV2 : Hid (∀ W, Calls Tryz.prog 17 #[.agg #[.int .i64 D.n, .int .i64 D.t, .int .i64 D.q, .int .i64 D.b], .string ⟨(textsL 2 s.sv).toArray⟩] W fun e w' => ∃ gp cp : Nat, e = .returned (.slice (some ⟨gp, 0, none⟩) D.n cp) ∧ IsI w' gp s.sv ∧ Up W w') := fun W => by
    have := values_row D.n D.t D.q D.b ⟨(textsL 2 s.sv).toArray⟩ W (size_texts s.sv D.n hs.ls (by omega)) hn4 hn16 (by omega) (by omega)
    rw [bytes_back, vals_texts D.n D.t s.sv hs.ls (by omega) hs.bs] at this
    exact this
  have HBo : Hid (∀ W ga ca gb cb, IsI W ga s.cl → IsI W gb s.sv → Calls Tryz.prog 70 #[.agg #[.int .i64 D.n, .int .i64 D.t, .int .i64 D.q, .int .i64 D.b], .slice (some ⟨ga, 0, none⟩) D.n ca, .slice (some ⟨gb, 0, none⟩) D.n cb, .int .i64 1] W fun e w' => ∃ gp cp : Nat, e = .returned (.slice (some ⟨gp, 0, none⟩) D.n cp) ∧ IsI w' gp vs ∧ Up W w') := fun W ga ca gb cb ia ib => by
    have := both_row D.n D.t D.q D.b s.cl s.sv ga gb ca cb W hn4 hn16 (by omega) (by omega) hs.lc hs.ls hs.bc hs.bs ia ib
    rw [hv] at this
    exact this
  have HTx : Hid (∀ W gp cp, IsI W gp vs → Calls Tryz.prog 21 #[.slice (some ⟨gp, 0, none⟩) D.n cp] W fun e w' => e = .returned (.string ⟨(textsL 2 vs).toArray⟩) ∧ Up W w') := fun W gp cp hi => keepText_calls D.n vs gp cp W (by rw [← hv]; exact plusI_length _ _ _ _) (by omega) (fun i hi => by have := plusI_small D.n s.cl s.sv D.t (by omega) i hi; rw [hv] at this; omega) hi
  have hz1 : (⟨(textsL 2 s.cl).toArray⟩ : ByteArray).size = 2 * D.n := by show (textsL 2 s.cl).toArray.size = _; rw [List.size_toArray, textsL_length, hs.lc]
  have hz2 : (⟨(textsL 2 s.sv).toArray⟩ : ByteArray).size = 2 * D.n := by show (textsL 2 s.sv).toArray.size = _; rw [List.size_toArray, textsL_length, hs.ls]
  have HB : Hid _ := hB
  have HI : Hid (IsI w gv vs) := iv
  clear hX hB hv iv hn
  generalize (⟨(textsL 2 s.cl).toArray⟩ : ByteArray) = T1 at HSh HV1 hz1
  generalize (⟨(textsL 2 s.sv).toArray⟩ : ByteArray) = T2 at HSh HV2 hz2
  generalize (⟨(textsL 2 vs).toArray⟩ : ByteArray) = T3 at HTx
  generalize s.cl = cl at HV1 HBo
  generalize s.sv = sv at HV2 HBo
  clear hs O
  generalize D.n = n at *
  generalize D.t = t at *
  generalize D.q = q at *
  generalize D.b = b at *
  generalize D.key = kk at *
  have ez : IntKind.i64.wrap (2 * (n : Int)) = ((2 * n : Nat) : Int) := by rw [IntWalk.i64_in _ (by omega)]; omega
  go_enter Tryz.func22, Tryz.ntmps22
  go_wp2_with fail
  refine Calls.mono HSh.out ?_
  rintro e w1 ⟨rfl, hu1⟩
  have hc0 := (HB.out.up hu1).c0
  go_wp2_with fail
  refine (must_calls g _).mono ?_
  rintro e w2 ⟨rfl, rfl⟩
  have hc1 := (HB.out.up hu1).c1
  have hc2 := (HB.out.up hu1).c2
  have hc3 := (HB.out.up hu1).c3
  have hc5 := (HB.out.up hu1).c5
  clear hz1 hz2 ez
  go_wp2_with fail
  clear hc5
  go_region_held3 (fun w' => w'.cell? ⟨g, 0, none⟩ = some (.int .i64 (n : Int)) ∧ w'.cell? ⟨g, 1, none⟩ = some (.int .i64 (t : Int)) ∧ w'.cell? ⟨g, 2, none⟩ = some (.int .i64 q) ∧ w'.cell? ⟨g, 3, none⟩ = some (.int .i64 b)) (first | go_keep | exact keepC4 hua3 (by assumption) | exact keepC4 hua2 (by assumption) | exact keepC4 hua1 (by assumption))
    ((first | (go_at_call 70; refine Calls.mono (HBo.out _ ga ca gb cb (ia.up hua2) ib) ?_; rintro e wa3 ⟨gs, cs, rfl, is, hua3⟩) | (go_at_call 17; have hqq := hua1; clear hqq; refine Calls.mono (HV2.out _) ?_; rintro e wa2 ⟨gb, cb, rfl, ib, hua2⟩) | (go_at_call 17; refine Calls.mono (HV1.out _) ?_; rintro e wa1 ⟨ga, ca, rfl, ia, hua1⟩)))
  have hua : Up w2 wa3 := Up.trans (Up.trans (Up.trans (Up.drew (Up.refl _)) hua1) hua2) hua3
  clear hc0 hc1 hc2 hc3 hua1 hua2 hua3 ia ib
  have jv : IsI wa3 gv vs := HI.out.up (hu1.trans hua)
  go_wp2_with fail
  refine Calls.mono (HTx.out _ gs cs is) ?_
  rintro e w4 ⟨rfl, hu4⟩
  go_wp2_with fail
  refine Calls.mono (HTx.out _ gv cv (jv.up hu4)) ?_
  rintro e w5 ⟨rfl, hu5⟩
  go_wp2_with fail
  refine (must_calls g _).mono ?_
  rintro e w6 ⟨rfl, rfl⟩
  go_wp2_with fail
  go_end0
  exact ⟨rfl, Up.trans hu1 (Up.trans hua (Up.trans hu4 hu5))⟩

end Go.Proofs.YtcjhgbljhpflfabGreat

namespace Go.Proofs.YtcjhgbljhpflfabGreat
open Go.RowKit
set_option linter.unusedVariables false
set_option maxRecDepth 100000

theorem sentW {D : Dat} (O : D.Ok) {s : St} (hs : s.Ok D 0) (d : List UInt8) : (s.sent D d).Ok D 1 :=
  ⟨hs.lc, hs.ls, hs.bc, hs.bs, fun _ => (hide_told D.n D.t D.q D.key s.cl d O.nt O.q1 O.q2 O.fit).1⟩

theorem answeredW {D : Dat} (O : D.Ok) {s : St} (hs : s.Ok D 1) (j : Nat) (d : List UInt8) (hz : ctB (linS1 D j s d).1 D.n D.t D.q = true) : (s.answered D j d).Ok D 2 :=
  ⟨hs.lc, maskI_length _ _ _, hs.bc, maskI_lt _ _ _ (by have := O.nt.t3; omega), fun _ => hz⟩

theorem openedW {D : Dat} (O : D.Ok) {s : St} (hs : s.Ok D 2) : (s.opened D).Ok D 3 :=
  ⟨decI_length _ _ _, hs.ls, decI_lt O.nt _, hs.bs, fun c => by omega⟩

theorem bentW {D : Dat} (O : D.Ok) {s : St} (hs : s.Ok D 3) (j : Nat) (d : List UInt8) : (s.bent D j d).Ok D 0 :=
  ⟨lessI_length _ _ _ _, maskI_length _ _ _, lessI_lt _ _ _ _ (by have := O.nt.t3; omega), maskI_lt _ _ _ (by have := O.nt.t3; omega), fun c => by omega⟩

theorem less_back (n t : Nat) (a m : List Int) (hl : a.length = n) (hb : ∀ i, i < n → 0 ≤ a.getD i 0 ∧ a.getD i 0 < (t : Int)) : plusI n (lessI n a m t) m t = a := by
  refine list_same (n := n) (plusI_length _ _ _ _) hl fun i hi => ?_
  rw [plusI_at n _ _ _ i hi, lessI_at n _ _ _ i hi]
  have h := hb i hi
  generalize a.getD i 0 = x at h
  generalize m.getD i 0 = y
  rw [Int.emod_add_emod, Int.sub_add_cancel]
  exact Int.emod_eq_of_lt h.1 h.2

theorem Dat.Ok.goodP {D : Dat} (O : D.Ok) : GoodP D.n D.t D.q D.b := ⟨O.nt, O.q1, O.q2, O.good, O.fit⟩

theorem IsCT.openI {n t : Nat} {q : Int} {k l : List UInt8} {ms : List Int} {E : Nat} (hn : 0 < n) (ht : 1 ≤ t) (hq : 0 < q) (h : IsCT n t q (secI k n) l ms E) : Proofs.YtcjhgbljhpflfabGreat.openI n t q (plusI n (ct0 l n) (timesI n (ct1 l n) (secI k n) q) q) = ms := by
  refine list_same (n := n) (by simp [Proofs.YtcjhgbljhpflfabGreat.openI]) h.len fun i hi => ?_
  rw [Proofs.YtcjhgbljhpflfabGreat.openI, getD_range hi]
  exact h.holds.opens hn (by omega) hq h.small h.fits i hi

/-- the answer of a layer's second step -/
theorem layer_came {D : Dat} (O : D.Ok) (dk : List UInt8) (htk : D.tk = tkL D.n (secI D.key D.n) D.q D.b dk D.L) (l : Lay) (ol : l.Ok D.n D.t) (j : Nat) (hlay : layOf D.n D.net j = l.text) (s : St) (hs : s.Ok D 0) (vs : List Int) (hv : plusI D.n s.cl s.sv D.t = vs) (d0 d1 : List UInt8) :
    ((linS1 D j (s.sent D d0) d1).2 = 0 ∧ ∃ ls E, IsCT D.n D.t D.q (secI D.key D.n) (linS1 D j (s.sent D d0) d1).1 ls E ∧ decI D.n D.t ls = lessI D.n (alI D.n D.t l.M l.B vs) (maskI D.n D.t d1) D.t) ∨
    (linS1 D j (s.sent D d0) d1 = ([], 4) ∧ fitsB D.t D.q (mostE D.n D.t (D.q % (D.t : Int)).toNat (tnN D.n D.L D.b) : Nat) = false) := by
  have p := O.goodP
  have ht := O.nt.t3
  have hc := lin_came p O.b1 O.b2 D.L O.dig (secI D.key D.n) (s.sent D d0).y dk l.text (encI D.n D.t s.cl) s.cl s.sv (maskI D.n D.t d1) (hide_vals p D.key d0 s.cl hs.lc hs.bc) (dec_enc O.nt s.cl hs.lc hs.bc) (ol.lay (by have := O.nt.ht; omega)) hs.ls (maskI_length _ _ _) hs.bs (maskI_lt _ _ _ (by omega))
  rw [hv, lay_app D.n D.t l.bd l.s l.M l.B _ O.nt.hn (by have := O.nt.ht; omega) ol.hM ol.hB ol.bM ol.bB] at hc
  unfold linS1
  rw [hlay, htk]
  exact hc

/-- behind the third step, and behind the fourth -/
theorem layer_opened {D : Dat} (O : D.Ok) (l : Lay) (j : Nat) (s : St) (vs : List Int) (d1 : List UInt8) {ls : List Int} {E : Nat} (hc : IsCT D.n D.t D.q (secI D.key D.n) (linS1 D j s d1).1 ls E) (hd : decI D.n D.t ls = lessI D.n (alI D.n D.t l.M l.B vs) (maskI D.n D.t d1) D.t) :
    ((s.answered D j d1).opened D).cl = lessI D.n (alI D.n D.t l.M l.B vs) (maskI D.n D.t d1) D.t ∧ ((s.answered D j d1).opened D).sv = maskI D.n D.t d1 ∧ plusI D.n ((s.answered D j d1).opened D).cl ((s.answered D j d1).opened D).sv D.t = alI D.n D.t l.M l.B vs := by
  have hn := O.nt.half
  have ht := O.nt.t3
  have hq := O.q1
  have e1 : ((s.answered D j d1).opened D).cl = lessI D.n (alI D.n D.t l.M l.B vs) (maskI D.n D.t d1) D.t := by
    show decI D.n D.t (openI D.n D.t D.q (plusI D.n (ct0 (linS1 D j s d1).1 D.n) (timesI D.n (ct1 (linS1 D j s d1).1 D.n) (secI D.key D.n) D.q) D.q)) = _
    rw [hc.openI (by omega) (by omega) (by omega), hd]
  refine ⟨e1, rfl, ?_⟩
  rw [e1]
  exact less_back D.n D.t _ _ (alI_length _ _ _ _ _) (alI_small _ _ _ _ _ (by omega))

theorem layer_bent {D : Dat} (O : D.Ok) (l : Lay) (ol : l.Ok D.n D.t) (j : Nat) (hlay : layOf D.n D.net j = l.text) (s : St) (vs : List Int) (d3 : List UInt8) (hv : plusI D.n s.cl s.sv D.t = vs) :
    plusI D.n (s.bent D j d3).cl (s.bent D j d3).sv D.t = beI D.n D.t l.bd l.s vs := by
  have ht := O.nt.t3
  show plusI D.n (lessI D.n (bentI D.n D.t (layOf D.n D.net j) (plusI D.n s.cl s.sv D.t)) (maskI D.n D.t d3) D.t) (maskI D.n D.t d3) D.t = _
  rw [hv, hlay, lay_bent _ _ _ _ _ _ _ ol.hs]
  exact less_back D.n D.t _ _ (beI_length _ _ _ _ _) (beI_small _ _ _ _ _ (by omega))

theorem SessAt.far {w : World} {X g n t : Nat} {q b : Int} {k : List UInt8} {D : Dat} {j r : Nat} {s : St} (h : SessAt w X D j r s) (hB : BoxAt w g n t q b k) : g ≠ X := by
  obtain ⟨gk, ck, H2, cap2, gs2, caps2, HN, o, capN, gc, cc, gv, cv, v0, v1, v2, h1, _⟩ := h
  rintro rfl
  have := hB.c4
  rw [h1.c4] at this
  cases this

theorem IsI.step {w w' : World} {X g : Nat} {xs : List Int} {D : Dat} {j r j' r' : Nat} {s s' : St} (h : IsI w g xs) (a : SessAt w X D j r s) (a' : SessAt w' X D j' r' s') (m : Mut (fun k => k = X) w w') : IsI w' g xs := by
  obtain ⟨gk, ck, H2, cap2, gs2, caps2, HN, o, capN, gc, cc, gv, cv, v0, v1, v2, h1, _⟩ := a
  obtain ⟨gk', ck', H2', cap2', gs2', caps2', HN', o', capN', gc', cc', gv', cv', v0', v1', v2', h1', _⟩ := a'
  exact h.sess m h1 h1'

theorem DrawsAt.up {w w' : World} {b0 : Nat} {st : Option Addr} {k : Nat} {f : Nat → ByteArray} (h : DrawsAt w b0 st k f) (hu : Up w w') : DrawsAt w' b0 st k f :=
  ⟨h.siz, h.no, fun i hi => by obtain ⟨db, o, e, hl, hc⟩ := h.yes i hi; exact ⟨db, o, e, hl, keepC hu hc⟩⟩

theorem DrawsAt.mut {w w' : World} {b0 X : Nat} {st : Option Addr} {k : Nat} {f : Nat → ByteArray} (h : DrawsAt w b0 st k f) (m : Mut (fun k => k = X) w w') (hb : b0 ≤ X) : DrawsAt w' b0 st k f :=
  ⟨h.siz, h.no, fun i hi => by obtain ⟨db, o, e, hl, hc⟩ := h.yes i hi; exact ⟨db, o, e, hl, m.cell hc (fun e => by have e : db = X := e; omega)⟩⟩

theorem BoxAt.mut {w w' : World} {g n t X : Nat} {q b : Int} {k : List UInt8} (h : BoxAt w g n t q b k) (m : Mut (fun k => k = X) w w') (hg : g ≠ X) : BoxAt w' g n t q b k :=
  ⟨m.cell h.c0 hg, m.cell h.c1 hg, m.cell h.c2 hg, m.cell h.c3 hg, m.cell h.c4 hg, m.cell h.c5 hg⟩

/-- what a layer's steps leave as it was: the box, the draws, the values, the layer -/
structure KW (W : World) (D : Dat) (g b0 : Nat) (st : Option Addr) (k : Nat) (f : Nat → ByteArray) (gv : Nat) (vs : List Int) (G gm cm gb cb : Nat) (l : Lay) : Prop where
  box : BoxAt W g D.n D.t D.q D.b D.key
  dr : DrawsAt W b0 st k f
  iv : IsI W gv vs
  l0 : W.cell? ⟨G, 0, none⟩ = some (.bool l.bd)
  l1 : W.cell? ⟨G, 1, none⟩ = some (.int .i64 (l.s : Int))
  l2 : W.cell? ⟨G, 2, none⟩ = some (.slice (some ⟨gm, 0, none⟩) (D.n / 2 * (D.n / 2)) cm)
  l3 : W.cell? ⟨G, 3, none⟩ = some (.slice (some ⟨gb, 0, none⟩) D.n cb)
  im : IsI W gm l.M
  ib : IsI W gb l.B

theorem KW.up {W W' : World} {D : Dat} {g b0 : Nat} {st : Option Addr} {k : Nat} {f : Nat → ByteArray} {gv : Nat} {vs : List Int} {G gm cm gb cb : Nat} {l : Lay} (h : KW W D g b0 st k f gv vs G gm cm gb cb l) (hu : Up W W') : KW W' D g b0 st k f gv vs G gm cm gb cb l :=
  ⟨h.box.up hu, h.dr.up hu, h.iv.up hu, keepC hu h.l0, keepC hu h.l1, keepC hu h.l2, keepC hu h.l3, h.im.up hu, h.ib.up hu⟩

theorem KW.mut {W W' : World} {D : Dat} {g b0 : Nat} {st : Option Addr} {k : Nat} {f : Nat → ByteArray} {gv : Nat} {vs : List Int} {G gm cm gb cb : Nat} {l : Lay} {X j r j' r' : Nat} {s s' : St} (h : KW W D g b0 st k f gv vs G gm cm gb cb l) (a : SessAt W X D j r s) (a' : SessAt W' X D j' r' s') (m : Mut (fun k => k = X) W W') (hb : b0 ≤ X) (hG : G ≠ X) : KW W' D g b0 st k f gv vs G gm cm gb cb l :=
  ⟨h.box.mut m (a.far h.box), h.dr.mut m hb, h.iv.step a a' m, m.cell h.l0 hG, m.cell h.l1 hG, m.cell h.l2 hG, m.cell h.l3 hG, h.im.step a a' m, h.ib.step a a' m⟩

end Go.Proofs.YtcjhgbljhpflfabGreat
