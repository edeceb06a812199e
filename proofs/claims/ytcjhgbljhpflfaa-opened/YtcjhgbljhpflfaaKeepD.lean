/-
  Walks: a case that is played: hiding, opening, the bound.
-/
import Derived.Test.YtcjhgbljhpflfaaKeepC
import Derived.Test.YtcjhgbljhpflfaaCodeO
namespace Go.Proofs.Ytcjhgbljhpflfaa
open Go.RowKit
set_option linter.unusedVariables false
set_option maxRecDepth 100000

/-- a case lies at g: its parameters, its key, and all was as it must be -/
structure BoxAt (w : World) (g n t : Nat) (q b : Int) (k : List UInt8) : Prop where
  c0 : w.cell? ⟨g, 0, none⟩ = some (.int .i64 n)
  c1 : w.cell? ⟨g, 1, none⟩ = some (.int .i64 t)
  c2 : w.cell? ⟨g, 2, none⟩ = some (.int .i64 q)
  c3 : w.cell? ⟨g, 3, none⟩ = some (.int .i64 b)
  c4 : w.cell? ⟨g, 4, none⟩ = some (.string ⟨k.toArray⟩)
  c5 : w.cell? ⟨g, 5, none⟩ = some (.bool true)

theorem BoxAt.up {w w' : World} {g n t : Nat} {q b : Int} {k : List UInt8} (h : BoxAt w g n t q b k) (hu : Up w w') : BoxAt w' g n t q b k :=
  ⟨keepC hu h.c0, keepC hu h.c1, keepC hu h.c2, keepC hu h.c3, keepC hu h.c4, keepC hu h.c5⟩

/-- good parameters, in one -/
structure GoodP (n t : Nat) (q b : Int) : Prop where
  nt : NT n t
  q1 : 2 ≤ q
  q2 : q ≤ 1073741823
  good : goodB n t q b = true
  fit : fitsB t q 2 = true

theorem goodP_of {n t q b : Int} (h : goodB n t q b = true) : ∃ m u : Nat, n = m ∧ t = u ∧ GoodP m u q b := by
  obtain ⟨g, e1, e2, hq, hq2, _, _, hfit⟩ := goodB_NT h
  refine ⟨n.toNat, t.toNat, e1, e2, g, hq, hq2, ?_, ?_⟩
  · rw [← e1, ← e2]; exact h
  · rw [← e2]; exact hfit

theorem bytes_back (l : List UInt8) : (⟨l.toArray⟩ : ByteArray).data.toList = l := by simp

set_option maxHeartbeats 4000000 in
theorem hide_box (g n t : Nat) (q b : Int) (k : List UInt8) (vs : List Int) (gv cv : Nat) (d : ByteArray) (w : World) (hd : d.size ≤ maxLen) (p : GoodP n t q b) (hk : secB k n = true) (hB : BoxAt w g n t q b k) (hl : vs.length = n) (hv : ∀ i, i < n → 0 ≤ vs.getD i 0 ∧ vs.getD i 0 < (t : Int)) (iv : IsI w gv vs) :
    Calls Try.prog 37 #[.pointer (some ⟨g, 0, none⟩), .slice (some ⟨gv, 0, none⟩) n cv, .string d] w fun e w' => e = .returned (.string ⟨(hideL n t q k (textsL 2 vs) d.data.toList).toArray⟩) ∧ Up w w' := by
  have ht := p.nt.t3
  have ht2 := p.nt.ht
  obtain ⟨hd1, hd2, hd3⟩ := p.nt.half
  have hkl : k.length = n + 1 := ((secB_iff _ _).1 hk).1
  have HT : Hid (∀ W, IsI W gv vs → Calls Try.prog 50 #[.slice (some ⟨gv, 0, none⟩) n cv] W fun e w' => e = .returned (.string ⟨(textsL 2 vs).toArray⟩) ∧ Up W w') := fun W hi => keepText_calls n vs gv cv W hl (by omega) (fun i hi => by have := hv i hi; omega) hi
  have h256 : ((256 ^ 2 : Nat) : Int) = 65536 := by decide
  have HE : Hid (∀ W, Calls Try.prog 29 #[.agg #[.int .i64 n, .int .i64 t, .int .i64 q, .int .i64 b], .string ⟨k.toArray⟩, .string ⟨(textsL 2 vs).toArray⟩, .string d] W fun e w' => e = .returned (.tuple #[.string ⟨(hideL n t q k (textsL 2 vs) d.data.toList).toArray⟩, .int .i64 0]) ∧ Up W w') := fun W => by
    have hlt : (textsL 2 vs).length = 2 * n := by rw [textsL_length, hl]
    have := Encrypt_ok n t q b ⟨k.toArray⟩ ⟨(textsL 2 vs).toArray⟩ d W (by show k.toArray.size ≤ _; rw [List.size_toArray, hkl]; unfold maxLen; omega) (by show (textsL 2 vs).toArray.size ≤ _; rw [List.size_toArray, hlt]; unfold maxLen; omega) hd p.nt p.q1 p.q2 p.good (by rw [bytes_back]; exact hk) (by rw [bytes_back]; exact okL_texts vs n 2 t hl hv (by omega))
    rw [bytes_back, bytes_back] at this
    exact this
  have hc0 := hB.c0
  have hc1 := hB.c1
  have hc2 := hB.c2
  have hc3 := hB.c3
  have hc4 := hB.c4
  generalize hideL n t q k (textsL 2 vs) d.data.toList = ans at HE
  generalize textsL 2 vs = T at HT HE
  generalize (⟨k.toArray⟩ : ByteArray) = K at HE hc4
  clear hB hk hv hl h256
  go_enter Try.func37, Try.ntmps37
  go_wp2_with fail
  go_region_held3 (fun w' => w'.cell? ⟨g, 0, none⟩ = some (.int .i64 (n : Int)) ∧ w'.cell? ⟨g, 1, none⟩ = some (.int .i64 (t : Int)) ∧ w'.cell? ⟨g, 2, none⟩ = some (.int .i64 q) ∧ w'.cell? ⟨g, 3, none⟩ = some (.int .i64 b) ∧ w'.cell? ⟨g, 4, none⟩ = some (.string K))
    (first | go_keep | exact keepC5 hu2 (by assumption) | exact keepC5 hu1 (by assumption))
    ((first | (go_at_call 50; refine Calls.mono (HT.out _ (by exact iv.up (Up.drew (Up.refl _)))) ?_; rintro e w1 ⟨rfl, hu1⟩) | (go_at_call 29; refine Calls.mono (HE.out _) ?_; rintro e w2 ⟨rfl, hu2⟩)))
  have hu : Up w w2 := Up.trans (Up.trans (Up.drew (Up.refl _)) hu1) hu2
  clear hc0 hc1 hc2 hc3 hc4
  go_wp2_with fail
  refine (must_calls g _).mono ?_
  rintro e w3 ⟨rfl, rfl⟩
  go_wp2_with fail
  go_ret
  exact ⟨rfl, hu⟩

set_option maxHeartbeats 4000000 in
theorem opens_box (g n t : Nat) (q b : Int) (k c : List UInt8) (ms vs : List Int) (E gv cv : Nat) (w : World) (p : GoodP n t q b) (hk : secB k n = true) (hB : BoxAt w g n t q b k) (hc : IsCT n t q (secI k n) c ms E) (hd : decI n t ms = vs) (iv : IsI w gv vs) :
    Calls Try.prog 38 #[.pointer (some ⟨g, 0, none⟩), .string ⟨c.toArray⟩, .slice (some ⟨gv, 0, none⟩) n cv] w fun e w' => e = .returned (.tuple #[]) ∧ Up w w' := by
  have ht := p.nt.t3
  have ht2 := p.nt.ht
  obtain ⟨hd1, hd2, hd3⟩ := p.nt.half
  have hkl : k.length = n + 1 := ((secB_iff _ _).1 hk).1
  have hcl : c.length = 6 + 8 * n := ((ctB_iff _ _ _ _).1 hc.ct).1
  have hl : vs.length = n := by rw [← hd]; exact decI_length _ _ _
  have hq0 := p.q1
  have HT : Hid (∀ W, IsI W gv vs → Calls Try.prog 50 #[.slice (some ⟨gv, 0, none⟩) n cv] W fun e w' => e = .returned (.string ⟨(textsL 2 vs).toArray⟩) ∧ Up W w') := fun W hi => keepText_calls n vs gv cv W hl (by omega) (fun i hi => by rw [← hd]; exact decI_bounds p.nt ms i (by rw [decI_length]; exact hi)) hi
  have HE : Hid (∀ W, Calls Try.prog 31 #[.agg #[.int .i64 n, .int .i64 t, .int .i64 q, .int .i64 b], .string ⟨k.toArray⟩, .string ⟨c.toArray⟩] W fun e w' => e = .returned (.tuple #[.string ⟨(textsL 2 vs).toArray⟩, .int .i64 0]) ∧ Up W w') := fun W => by
    have := Decrypt_ok n t q b ⟨k.toArray⟩ ⟨c.toArray⟩ W (by show k.toArray.size ≤ _; rw [List.size_toArray, hkl]; unfold maxLen; omega) (by show c.toArray.size ≤ _; rw [List.size_toArray, hcl]; unfold maxLen; omega) p.nt p.q1 p.q2 p.good (by rw [bytes_back]; exact hk) (by rw [bytes_back]; exact hc.ct)
    rw [bytes_back, bytes_back, hc.opens (by omega) (by omega) (by omega), hd] at this
    exact this
  have hc0 := hB.c0
  have hc1 := hB.c1
  have hc2 := hB.c2
  have hc3 := hB.c3
  have hc4 := hB.c4
  generalize textsL 2 vs = T at HT HE
  generalize (⟨k.toArray⟩ : ByteArray) = K at HE hc4
  generalize (⟨c.toArray⟩ : ByteArray) = C at HE
  clear hB hk hl hc hd
  go_enter Try.func38, Try.ntmps38
  go_wp2_with fail
  go_region_held3 (fun w' => w'.cell? ⟨g, 0, none⟩ = some (.int .i64 (n : Int)) ∧ w'.cell? ⟨g, 1, none⟩ = some (.int .i64 (t : Int)) ∧ w'.cell? ⟨g, 2, none⟩ = some (.int .i64 q) ∧ w'.cell? ⟨g, 3, none⟩ = some (.int .i64 b) ∧ w'.cell? ⟨g, 4, none⟩ = some (.string K))
    (first | go_keep | exact keepC5 hu2 (by assumption))
    ((first | (go_at_call 31; refine Calls.mono (HE.out _) ?_; rintro e w2 ⟨rfl, hu2⟩)))
  have hu : Up w w2 := Up.trans (Up.drew (Up.refl _)) hu2
  have jv := iv.up hu
  clear hc0 hc1 hc2 hc3 hc4
  go_wp2_with fail
  refine Calls.mono (HT.out _ jv) ?_
  rintro e w3 ⟨rfl, hu3⟩
  go_wp2_with fail
  refine (must_calls g _).mono ?_
  rintro e w4 ⟨rfl, rfl⟩
  go_wp2_with fail
  go_end0
  exact ⟨rfl, hu.trans hu3⟩

set_option maxHeartbeats 4000000 in
theorem bound_box (g n t : Nat) (q b : Int) (k c : List UInt8) (ms s : List Int) (E : Nat) (w : World) (p : GoodP n t q b) (hB : BoxAt w g n t q b k) (hc : IsCT n t q s c ms E) :
    Calls Try.prog 39 #[.pointer (some ⟨g, 0, none⟩), .string ⟨c.toArray⟩] w fun e w' => e = .returned (.int .i64 E) ∧ Up w w' := by
  have ht := p.nt.t3
  have ht2 := p.nt.ht
  obtain ⟨hd1, hd2, hd3⟩ := p.nt.half
  have hcl : c.length = 6 + 8 * n := ((ctB_iff _ _ _ _).1 hc.ct).1
  have hq0 := p.q1
  have hq2 := p.q2
  have hlt := fits_lt (by omega) (by omega) hc.fits
  have HF : Hid _ := hc.fits
  have HE : Hid (∀ W, Calls Try.prog 33 #[.agg #[.int .i64 n, .int .i64 t, .int .i64 q, .int .i64 b], .string ⟨c.toArray⟩] W fun e w' => e = .returned (.tuple #[.int .i64 E, .int .i64 0]) ∧ Up W w') := fun W => by
    have := Bound_ok n t q b ⟨c.toArray⟩ W (by show c.toArray.size ≤ _; rw [List.size_toArray, hcl]; unfold maxLen; omega) p.nt p.q1 p.q2 p.good (by rw [bytes_back]; exact hc.ct)
    rw [bytes_back, hc.bound] at this
    exact this
  have HB : Hid _ := hB
  have hc0 := hB.c0
  have hc1 := hB.c1
  have hc2 := hB.c2
  have hc3 := hB.c3
  generalize (⟨c.toArray⟩ : ByteArray) = C at HE
  clear hB hc
  go_enter Try.func39, Try.ntmps39
  go_wp2_with fail
  refine Calls.mono (HE.out _) ?_
  rintro e w2 ⟨rfl, hu2⟩
  clear hc0 hc1 hc2 hc3
  have hB2 := HB.out.up hu2
  have hc0 := hB2.c0
  have hc1 := hB2.c1
  have hc2 := hB2.c2
  have hc3 := hB2.c3
  clear hB2
  go_wp2_with fail
  refine (keepFits_calls _ _ _ _ _ _ (by omega) (by omega) (by omega) (by omega) (by omega) (by omega)).mono ?_
  rintro e w3 ⟨rfl, hu3⟩
  rw [HF.out]
  go_wp2_with fail
  refine (must_calls g _).mono ?_
  rintro e w4 ⟨rfl, rfl⟩
  go_wp2_with fail
  go_ret
  exact ⟨rfl, hu2.trans hu3⟩

/-- what hide gives -/
theorem hide_vals {n t : Nat} {q b : Int} (p : GoodP n t q b) (k d : List UInt8) (vs : List Int) (hl : vs.length = n) (hv : ∀ i, i < n → 0 ≤ vs.getD i 0 ∧ vs.getD i 0 < (t : Int)) : IsCT n t q (secI k n) (hideL n t q k (textsL 2 vs) d) (encI n t vs) 2 := by
  have h256 : ((256 ^ 2 : Nat) : Int) = 65536 := by decide
  have ht2 := p.nt.ht
  have h := hide_ct p.nt q p.q1 p.q2 p.fit k (textsL 2 vs) d
  rw [nums_texts vs n 2 t hl hv (by omega)] at h
  exact h

end Go.Proofs.Ytcjhgbljhpflfaa
