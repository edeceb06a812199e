/-
  Walks: a case that is played: hiding, opening, the bound.
  Walks: a case that begins; the statement Opened.
  Walks: an answer whose bound is told; the statement Added.
-/
import Derived.Test.YtcjhgbljhpflfabGreatKeepB
import Derived.Test.YtcjhgbljhpflfabGreatCodeN
namespace Go.Proofs.YtcjhgbljhpflfabGreat
open Go.RowKit
set_option linter.unusedVariables false
set_option maxRecDepth 100000

/-- a case lies at g: its parameters, its key, and all was as it must be -/
structure BoxAt (w : World) (g n t : Nat) (q b : Int) (k : List UInt8) : Prop where
  c0 : w.cell? ⟨g, 0, none⟩ = some (.int .i64 n)
  c1 : w.cell? ⟨g, 1, none⟩ = some (.int .i64 t)
  c2 : w.cell? ⟨g, 2, none⟩ = some (.int .i64 q)
  c3 : w.cell? ⟨g, 3, none⟩ = some (.int .i64 b)
  c4 : w.cell? ⟨g, 4, none⟩ = some (.string ⟨k.toArray⟩)
  c5 : w.cell? ⟨g, 5, none⟩ = some (.bool true)

theorem BoxAt.up {w w' : World} {g n t : Nat} {q b : Int} {k : List UInt8} (h : BoxAt w g n t q b k) (hu : Up w w') : BoxAt w' g n t q b k :=
  ⟨keepC hu h.c0, keepC hu h.c1, keepC hu h.c2, keepC hu h.c3, keepC hu h.c4, keepC hu h.c5⟩

/-- good parameters, in one -/
structure GoodP (n t : Nat) (q b : Int) : Prop where
  nt : NT n t
  q1 : 2 ≤ q
  q2 : q ≤ 1073741823
  good : goodB n t q b = true
  fit : fitsB t q 2 = true

theorem goodP_of {n t q b : Int} (h : goodB n t q b = true) : ∃ m u : Nat, n = m ∧ t = u ∧ GoodP m u q b := by
  obtain ⟨g, e1, e2, hq, hq2, _, _, hfit⟩ := goodB_NT h
  refine ⟨n.toNat, t.toNat, e1, e2, g, hq, hq2, ?_, ?_⟩
  · rw [← e1, ← e2]; exact h
  · rw [← e2]; exact hfit

theorem bytes_back (l : List UInt8) : (⟨l.toArray⟩ : ByteArray).data.toList = l := by simp

set_option maxHeartbeats 4000000 in
theorem hide_box (g n t : Nat) (q b : Int) (k : List UInt8) (vs : List Int) (gv cv : Nat) (d : ByteArray) (w : World) (hd : d.size ≤ maxLen) (p : GoodP n t q b) (hk : secB k n = true) (hB : BoxAt w g n t q b k) (hl : vs.length = n) (hv : ∀ i, i < n → 0 ≤ vs.getD i 0 ∧ vs.getD i 0 < (t : Int)) (iv : IsI w gv vs) :
    Calls Tryz.prog 61 #[.pointer (some ⟨g, 0, none⟩), .slice (some ⟨gv, 0, none⟩) n cv, .string d] w fun e w' => e = .returned (.string ⟨(hideL n t q k (textsL 2 vs) d.data.toList).toArray⟩) ∧ Up w w' := by
  have ht := p.nt.t3
  have ht2 := p.nt.ht
  obtain ⟨hd1, hd2, hd3⟩ := p.nt.half
  have hkl : k.length = n + 1 := ((secB_iff _ _).1 hk).1
  have HT : Hid (∀ W, IsI W gv vs → Calls Tryz.prog 21 #[.slice (some ⟨gv, 0, none⟩) n cv] W fun e w' => e = .returned (.string ⟨(textsL 2 vs).toArray⟩) ∧ Up W w') := fun W hi => keepText_calls n vs gv cv W hl (by omega) (fun i hi => by have := hv i hi; omega) hi
  have h256 : ((256 ^ 2 : Nat) : Int) = 65536 := by decide
  have HE : Hid (∀ W, Calls Tryz.prog 30 #[.agg #[.int .i64 n, .int .i64 t, .int .i64 q, .int .i64 b], .string ⟨k.toArray⟩, .string ⟨(textsL 2 vs).toArray⟩, .string d] W fun e w' => e = .returned (.tuple #[.string ⟨(hideL n t q k (textsL 2 vs) d.data.toList).toArray⟩, .int .i64 0]) ∧ Up W w') := fun W => by
    have hlt : (textsL 2 vs).length = 2 * n := by rw [textsL_length, hl]
    have := Encrypt_ok n t q b ⟨k.toArray⟩ ⟨(textsL 2 vs).toArray⟩ d W (by show k.toArray.size ≤ _; rw [List.size_toArray, hkl]; unfold maxLen; omega) (by show (textsL 2 vs).toArray.size ≤ _; rw [List.size_toArray, hlt]; unfold maxLen; omega) hd p.nt p.q1 p.q2 p.good (by rw [bytes_back]; exact hk) (by rw [bytes_back]; exact okL_texts vs n 2 t hl hv (by omega))
    rw [bytes_back, bytes_back] at this
    exact this
  have hc0 := hB.c0
  have hc1 := hB.c1
  have hc2 := hB.c2
  have hc3 := hB.c3
  have hc4 := hB.c4
  generalize hideL n t q k (textsL 2 vs) d.data.toList = ans at HE
  generalize textsL 2 vs = T at HT HE
  generalize (⟨k.toArray⟩ : ByteArray) = K at HE hc4
  clear hB hk hv hl h256
  go_enter Tryz.func61, Tryz.ntmps61
  go_wp2_with fail
  go_region_held3 (fun w' => w'.cell? ⟨g, 0, none⟩ = some (.int .i64 (n : Int)) ∧ w'.cell? ⟨g, 1, none⟩ = some (.int .i64 (t : Int)) ∧ w'.cell? ⟨g, 2, none⟩ = some (.int .i64 q) ∧ w'.cell? ⟨g, 3, none⟩ = some (.int .i64 b) ∧ w'.cell? ⟨g, 4, none⟩ = some (.string K))
    (first | go_keep | exact keepC5 hu2 (by assumption) | exact keepC5 hu1 (by assumption))
    ((first | (go_at_call 21; refine Calls.mono (HT.out _ (by exact iv.up (Up.drew (Up.refl _)))) ?_; rintro e w1 ⟨rfl, hu1⟩) | (go_at_call 30; refine Calls.mono (HE.out _) ?_; rintro e w2 ⟨rfl, hu2⟩)))
  have hu : Up w w2 := Up.trans (Up.trans (Up.drew (Up.refl _)) hu1) hu2
  clear hc0 hc1 hc2 hc3 hc4
  go_wp2_with fail
  refine (must_calls g _).mono ?_
  rintro e w3 ⟨rfl, rfl⟩
  go_wp2_with fail
  go_ret
  exact ⟨rfl, hu⟩

set_option maxHeartbeats 4000000 in
theorem opens_box (g n t : Nat) (q b : Int) (k c : List UInt8) (ms vs : List Int) (E gv cv : Nat) (w : World) (p : GoodP n t q b) (hk : secB k n = true) (hB : BoxAt w g n t q b k) (hc : IsCT n t q (secI k n) c ms E) (hd : decI n t ms = vs) (iv : IsI w gv vs) :
    Calls Tryz.prog 62 #[.pointer (some ⟨g, 0, none⟩), .string ⟨c.toArray⟩, .slice (some ⟨gv, 0, none⟩) n cv] w fun e w' => e = .returned (.tuple #[]) ∧ Up w w' := by
  have ht := p.nt.t3
  have ht2 := p.nt.ht
  obtain ⟨hd1, hd2, hd3⟩ := p.nt.half
  have hkl : k.length = n + 1 := ((secB_iff _ _).1 hk).1
  have hcl : c.length = 6 + 8 * n := ((ctB_iff _ _ _ _).1 hc.ct).1
  have hl : vs.length = n := by rw [← hd]; exact decI_length _ _ _
  have hq0 := p.q1
  have HT : Hid (∀ W, IsI W gv vs → Calls Tryz.prog 21 #[.slice (some ⟨gv, 0, none⟩) n cv] W fun e w' => e = .returned (.string ⟨(textsL 2 vs).toArray⟩) ∧ Up W w') := fun W hi => keepText_calls n vs gv cv W hl (by omega) (fun i hi => by rw [← hd]; exact decI_bounds p.nt ms i (by rw [decI_length]; exact hi)) hi
  have HE : Hid (∀ W, Calls Tryz.prog 32 #[.agg #[.int .i64 n, .int .i64 t, .int .i64 q, .int .i64 b], .string ⟨k.toArray⟩, .string ⟨c.toArray⟩] W fun e w' => e = .returned (.tuple #[.string ⟨(textsL 2 vs).toArray⟩, .int .i64 0]) ∧ Up W w') := fun W => by
    have := Decrypt_ok n t q b ⟨k.toArray⟩ ⟨c.toArray⟩ W (by show k.toArray.size ≤ _; rw [List.size_toArray, hkl]; unfold maxLen; omega) (by show c.toArray.size ≤ _; rw [List.size_toArray, hcl]; unfold maxLen; omega) p.nt p.q1 p.q2 p.good (by rw [bytes_back]; exact hk) (by rw [bytes_back]; exact hc.ct)
    rw [bytes_back, bytes_back, hc.opens (by omega) (by omega) (by omega), hd] at this
    exact this
  have hc0 := hB.c0
  have hc1 := hB.c1
  have hc2 := hB.c2
  have hc3 := hB.c3
  have hc4 := hB.c4
  generalize textsL 2 vs = T at HT HE
  generalize (⟨k.toArray⟩ : ByteArray) = K at HE hc4
  generalize (⟨c.toArray⟩ : ByteArray) = C at HE
  clear hB hk hl hc hd
  go_enter Tryz.func62, Tryz.ntmps62
  go_wp2_with fail
  go_region_held3 (fun w' => w'.cell? ⟨g, 0, none⟩ = some (.int .i64 (n : Int)) ∧ w'.cell? ⟨g, 1, none⟩ = some (.int .i64 (t : Int)) ∧ w'.cell? ⟨g, 2, none⟩ = some (.int .i64 q) ∧ w'.cell? ⟨g, 3, none⟩ = some (.int .i64 b) ∧ w'.cell? ⟨g, 4, none⟩ = some (.string K))
    (first | go_keep | exact keepC5 hu2 (by assumption))
    ((first | (go_at_call 32; refine Calls.mono (HE.out _) ?_; rintro e w2 ⟨rfl, hu2⟩)))
  have hu : Up w w2 := Up.trans (Up.drew (Up.refl _)) hu2
  have jv := iv.up hu
  clear hc0 hc1 hc2 hc3 hc4
  go_wp2_with fail
  refine Calls.mono (HT.out _ jv) ?_
  rintro e w3 ⟨rfl, hu3⟩
  go_wp2_with fail
  refine (must_calls g _).mono ?_
  rintro e w4 ⟨rfl, rfl⟩
  go_wp2_with fail
  go_end0
  exact ⟨rfl, hu.trans hu3⟩

/-- what hide gives -/
theorem hide_vals {n t : Nat} {q b : Int} (p : GoodP n t q b) (k d : List UInt8) (vs : List Int) (hl : vs.length = n) (hv : ∀ i, i < n → 0 ≤ vs.getD i 0 ∧ vs.getD i 0 < (t : Int)) : IsCT n t q (secI k n) (hideL n t q k (textsL 2 vs) d) (encI n t vs) 2 := by
  have h256 : ((256 ^ 2 : Nat) : Int) = 65536 := by decide
  have ht2 := p.nt.ht
  have h := hide_ct p.nt q p.q1 p.q2 p.fit k (textsL 2 vs) d
  rw [nums_texts vs n 2 t hl hv (by omega)] at h
  exact h

end Go.Proofs.YtcjhgbljhpflfabGreat

namespace Go.Proofs.YtcjhgbljhpflfabGreat
open Go.RowKit
set_option linter.unusedVariables false
set_option maxRecDepth 100000

/-- 1 0 0 .. -/
def oneC (i : Nat) : Int := if i = 0 then 1 else 0

set_option maxHeartbeats 4000000 in
theorem begin_calls (n t q b : Int) (d : ByteArray) (w : World) (hd : d.size ≤ maxLen) (hn : -9223372036854775808 ≤ n) (hn2 : n ≤ 9223372036854775807) :
    Calls Tryz.prog 15 #[.agg #[.int .i64 n, .int .i64 t, .int .i64 q, .int .i64 b, .string d]] w fun e w' => ∃ g m u q' b', GoodP m u q' b' ∧ e = .returned (.pointer (some ⟨g, 0, none⟩)) ∧ BoxAt w' g m u q' b' (keyL d.data.toList m) ∧ Up w w' := by
  obtain ⟨i0, hi0, hz0, hz1, hz2⟩ := info_parts info_int
  go_enter Tryz.func15, Tryz.ntmps15
  go_wp2_with fail
  refine (fit_calls n t q b _ hn hn2).mono ?_
  rintro e w1 ⟨n', t', q', b', hg, rfl, hu1⟩
  obtain ⟨m, u, rfl, rfl, p⟩ := goodP_of hg
  have P : Hid _ := p
  obtain ⟨hd1, hd2, hd3⟩ := p.nt.half
  have ht := p.nt.t3
  clear p hg
  obtain ⟨W1, hW1⟩ : ∃ W, W = w1.alloc (.cells #[.int .i64 m, .int .i64 u, .int .i64 q', .int .i64 b', .string ⟨#[]⟩, .bool true] 61) := ⟨_, rfl⟩
  have huW1 : Up w1 W1 := by rw [hW1]; exact (Up.refl _).alloc _
  have hsW1 : W1.heap.size = w1.heap.size + 1 := by rw [hW1]; simp
  have hc0 : W1.cell? ⟨w1.heap.size, 0, none⟩ = some (.int .i64 m) := by rw [hW1]; simp
  have hc1 : W1.cell? ⟨w1.heap.size, 1, none⟩ = some (.int .i64 u) := by rw [hW1]; simp
  have hc2 : W1.cell? ⟨w1.heap.size, 2, none⟩ = some (.int .i64 q') := by rw [hW1]; simp
  have hc3 : W1.cell? ⟨w1.heap.size, 3, none⟩ = some (.int .i64 b') := by rw [hW1]; simp
  have hc4 : W1.cell? ⟨w1.heap.size, 4, none⟩ = some (.string ⟨#[]⟩) := by rw [hW1]; simp
  have hc5 : W1.cell? ⟨w1.heap.size, 5, none⟩ = some (.bool true) := by rw [hW1]; simp
  have HZ : Hid (∀ o, W1.frozen? ⟨w1.heap.size, o, none⟩ = false) := show ∀ o, W1.frozen? ⟨w1.heap.size, o, none⟩ = false from fun o => by rw [hW1]; simp
  have hu1' := hu1.trans huW1
  obtain ⟨hc, hf⟩ := bcell hu1'
  have hcD : W1.cell? ⟨w.heap.size, 4, none⟩ = some (.string d) := by rw [hc _ _ (by simp)]; simp
  have KC0 : Hid _ := hc0
  have KC1 : Hid _ := hc1
  have KC2 : Hid _ := hc2
  have KC3 : Hid _ := hc3
  have KC4 : Hid _ := hc4
  have KC5 : Hid _ := hc5
  have KCD : Hid _ := hcD
  clear hc hf
  have HKey : Hid (∀ W, Calls Tryz.prog 60 #[.agg #[.int .i64 m, .int .i64 u, .int .i64 q', .int .i64 b'], .string d] W fun e w' => e = .returned (.tuple #[.string ⟨(keyL d.data.toList m).toArray⟩, .int .i64 0]) ∧ Up W w') := fun W => by
    have := P.out.nt.half
    exact Key_ok m u q' b' d W hd (by omega) P.out.good
  have HKL : Hid (((⟨(keyL d.data.toList m).toArray⟩ : ByteArray).size : Int) = 1 + (m : Int)) := show _ = _ by
    show ((keyL d.data.toList m).toArray.size : Int) = _
    rw [List.size_toArray, keyL_length]; omega
  have HSec : Hid _ := sec_key d.data.toList m
  generalize hKe : (⟨(keyL d.data.toList m).toArray⟩ : ByteArray) = K at HKey HKL
  have HKe : Hid _ := hKe
  clear hKe
  go_wp2_with fail
  rw [← hW1]
  clear hW1
  go_region_held3 (fun w' => w'.cell? ⟨w1.heap.size, 0, none⟩ = some (.int .i64 (m : Int)) ∧ w'.cell? ⟨w1.heap.size, 1, none⟩ = some (.int .i64 (u : Int)) ∧ w'.cell? ⟨w1.heap.size, 2, none⟩ = some (.int .i64 q') ∧ w'.cell? ⟨w1.heap.size, 3, none⟩ = some (.int .i64 b') ∧ w'.cell? ⟨w.heap.size, 4, none⟩ = some (.string d))
    (first | go_keep | exact keepC5 hu2 (by assumption))
    ((first | (go_at_call 60; refine Calls.mono (HKey.out _) ?_; rintro e w2 ⟨rfl, hu2⟩)))
  have hu12 : Up W1 w2 := Up.trans (Up.drew (Up.refl _)) hu2
  clear hu2 hc0 hc1 hc2 hc3 hc4 hc5 hcD
  have hc0 := keepC hu12 KC0.out
  have hc1 := keepC hu12 KC1.out
  have hc2 := keepC hu12 KC2.out
  have hc3 := keepC hu12 KC3.out
  have hc4 := keepC hu12 KC4.out
  have hc5 := keepC hu12 KC5.out
  have hcD := keepC hu12 KCD.out
  have hz := ((bcell hu12).2 _ _ (by omega)).trans (HZ.out 4)
  have hkl := HKL.out
  go_wp2_with fail
  refine (must_calls w1.heap.size _).mono ?_
  rintro e w3 ⟨rfl, rfl⟩
  have hge : w.heap.size + 1 ≤ w1.heap.size := by have := hu1.size; simpa using this
  obtain ⟨W3, hW3⟩ : ∃ W, W = w2.setCell ⟨w1.heap.size, 4, none⟩ (.string K) := ⟨_, rfl⟩
  have hB3 : BoxAt W3 w1.heap.size m u q' b' (keyL d.data.toList m) := by
    rw [hW3]
    refine ⟨?_, ?_, ?_, ?_, ?_, ?_⟩
    · rw [World.cell?_setCell_other _ _ _ _ (by simp)]; exact hc0
    · rw [World.cell?_setCell_other _ _ _ _ (by simp)]; exact hc1
    · rw [World.cell?_setCell_other _ _ _ _ (by simp)]; exact hc2
    · rw [World.cell?_setCell_other _ _ _ _ (by simp)]; exact hc3
    · rw [World.cell?_setCell_same _ _ _ hc4, HKe.out]
    · rw [World.cell?_setCell_other _ _ _ _ (by simp)]; exact hc5
  have hu03 : Up (w.alloc (.cells #[.int .i64 n, .int .i64 t, .int .i64 q, .int .i64 b, .string d] 48)) W3 := by
    rw [hW3]
    exact Below.setCell (hu1'.trans hu12) (by simpa using hge) _
  have hD3 : W3.cell? ⟨w.heap.size, 4, none⟩ = some (.string d) := by
    rw [hW3, World.cell?_setCell_far _ _ _ _ (by show w1.heap.size ≠ w.heap.size; omega)]; exact hcD
  rw [← hW3]
  clear hc0 hc1 hc2 hc3 hc4 hc5 hcD hz hW3 KC0 KC1 KC2 KC3 KC4 KC5 KCD HZ
  have HB3 : Hid _ := hB3
  have HD3 : Hid _ := hD3
  have hc0 := hB3.c0
  clear hB3 hD3
  go_wp2_with (at_make; refine wpList_make_full _ rfl _ _ 54 rfl W3.heap.size 3 i0 (.int .i64 0) 1 Tryz.underlying54 hi0 hz0 hz1 .i64 .i64 _ _ m rfl rfl rfl rfl (by rw [hz2]; omega) (by unfold maxLen; omega) (Nat.le_refl _) ?_)
  intro w4 hown4 hg4
  have ho4 := made_row hown4 (fun _ => 0) (fun _ => rfl)
  have hu4 := Up.made hg4
  obtain ⟨hck, hfk⟩ := ho4.cellAt 0 (by omega)
  have hst := ho4.stored 0 (by omega) 1
  have HST : Hid (OwnI (w4.setCell ⟨W3.heap.size, 0, none⟩ (.int .i64 1)) W3.heap.size (.slice (some ⟨W3.heap.size, 0, none⟩) m m) ((List.range m).map oneC) ∧ Below W3.heap.size w4 (w4.setCell ⟨W3.heap.size, 0, none⟩ (.int .i64 1))) := hst
  clear hown4 hg4 hst ho4 hc0
  have hm0 : (0 : Int) < (m : Int) := by omega
  obtain ⟨W5, hW5⟩ : ∃ W, W = w4.setCell ⟨W3.heap.size, 0, none⟩ (.int .i64 1) := ⟨_, rfl⟩
  have hu35 : Up W3 W5 := by rw [hW5]; exact Below.trans hu4 HST.out.2
  have i5 : IsI W5 W3.heap.size ((List.range m).map oneC) := by rw [hW5]; exact HST.out.1.isI
  have hD5 := keepC hu35 HD3.out
  have hB5 := HB3.out.up hu35
  subst hW5
  go_wp2_with fail
  refine (hide_box w1.heap.size m u q' b' (keyL d.data.toList m) ((List.range m).map oneC) W3.heap.size m d _ hd P.out HSec.out hB5 (by simp) (fun i hi => by rw [getD_range hi]; unfold oneC; split <;> omega) i5).mono ?_
  rintro e w6 ⟨rfl, hu6⟩
  have hct := hide_vals P.out (keyL d.data.toList m) d.data.toList ((List.range m).map oneC) (by simp) (fun i hi => by rw [getD_range hi]; unfold oneC; split <;> omega)
  have HCT : Hid _ := hct
  clear hct hck hfk
  go_wp2_with fail
  refine (opens_box w1.heap.size m u q' b' (keyL d.data.toList m) _ _ ((List.range m).map oneC) 2 W3.heap.size m _ P.out HSec.out (hB5.up hu6) HCT.out (dec_enc P.out.nt _ (by simp) (fun i hi => by rw [getD_range hi]; unfold oneC; split <;> omega)) (i5.up hu6)).mono ?_
  rintro e w7 ⟨rfl, hu7⟩
  go_wp2_with fail
  go_ret
  exact ⟨_, m, u, q', b', P.out, rfl, (hB5.up hu6).up hu7, (((Up.refl _).alloc _).trans hu03).trans ((hu35.trans hu6).trans hu7)⟩

end Go.Proofs.YtcjhgbljhpflfabGreat

namespace Go.Proofs.YtcjhgbljhpflfabGreat
open Go.RowKit
set_option linter.unusedVariables false
set_option maxRecDepth 100000

/-- what came of a call: a ciphertext, or nothing -/
def Came (n t : Nat) (q : Int) (s : List Int) (r : List UInt8 × Int) (ms : List Int) (E : Nat) : Prop :=
  (fitsB t q E = true ∧ r.2 = 0 ∧ IsCT n t q s r.1 ms E) ∨ (fitsB t q E = false ∧ r = ([], 4))

theorem came_add {n t : Nat} {q b : Int} (p : GoodP n t q b) (s : List Int) (x y : List UInt8) (ms ls : List Int) (E F : Nat) (hx : IsCT n t q s x ms E) (hy : IsCT n t q s y ls F) : Came n t q s (addL n t q x y) (plusI n ms ls t) (E + F + (q % (t : Int)).toNat) := by
  cases h : fitsB t q ((E + F + (q % (t : Int)).toNat : Nat) : Int) with
  | true => exact Or.inl ⟨h, add_ct p.nt q p.q1 p.q2 s x y ms ls E F hx hy h⟩
  | false =>
    refine Or.inr ⟨h, ?_⟩
    unfold addL tellL
    rw [hx.bound, hy.bound, if_neg (by rw [h]; decide)]

theorem came_addPlain {n t : Nat} {q b : Int} (p : GoodP n t q b) (s : List Int) (x : List UInt8) (ms vs : List Int) (E : Nat) (hx : IsCT n t q s x ms E) (hl : vs.length = n) (hv : ∀ i, i < n → 0 ≤ vs.getD i 0 ∧ vs.getD i 0 < (t : Int)) : Came n t q s (addPlainL n t q x (textsL 2 vs)) (plusI n ms (encI n t vs) t) (E + (q % (t : Int)).toNat) := by
  have h256 : ((256 ^ 2 : Nat) : Int) = 65536 := by decide
  have ht2 := p.nt.ht
  cases h : fitsB t q ((E + (q % (t : Int)).toNat : Nat) : Int) with
  | true =>
    have := addPlain_ct p.nt q p.q1 p.q2 s x (textsL 2 vs) ms E hx h
    rw [nums_texts vs n 2 t hl hv (by omega)] at this
    exact Or.inl ⟨h, this⟩
  | false =>
    refine Or.inr ⟨h, ?_⟩
    unfold addPlainL tellL
    rw [hx.bound, if_neg (by rw [h]; decide)]

theorem size_texts (vs : List Int) (n : Nat) (hl : vs.length = n) (hn : n ≤ 16) : (⟨(textsL 2 vs).toArray⟩ : ByteArray).size ≤ maxLen := by
  show (textsL 2 vs).toArray.size ≤ _
  rw [List.size_toArray, textsL_length, hl]; unfold maxLen; omega

theorem bnd_small (vs : List Int) (n : Nat) (t : Int) (hl : vs.length = n) (ht : 0 ≤ t) (ht2 : t ≤ 1048576) (hv : ∀ i, i < n → 0 ≤ vs.getD i 0 ∧ vs.getD i 0 < t) : Bnd vs 1048576 := by
  intro i
  rcases Nat.lt_or_ge i n with h | h
  · have := hv i h; omega
  · rw [getD_out _ _ (by omega)]; omega

end Go.Proofs.YtcjhgbljhpflfabGreat
