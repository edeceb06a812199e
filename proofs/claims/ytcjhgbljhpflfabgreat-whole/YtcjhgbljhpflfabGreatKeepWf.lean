/-
  Walks: a layer's four steps in a session, of the statements without the document's answer.
-/
import Derived.Test.YtcjhgbljhpflfabGreatKeepWd
namespace Go.Proofs.YtcjhgbljhpflfabGreat
open Go.RowKit
set_option linter.unusedVariables false
set_option maxRecDepth 100000

theorem keepC8w {p0 p1 p2 p3 p4 p5 p6 p7 : Addr} {u0 u1 u2 u3 u4 u5 u6 u7 : Value} {W W' : World} (hu : Up W W') (hS : W.cell? p0 = some u0 ∧ W.cell? p1 = some u1 ∧ W.cell? p2 = some u2 ∧ W.cell? p3 = some u3 ∧ W.cell? p4 = some u4 ∧ W.cell? p5 = some u5 ∧ W.cell? p6 = some u6 ∧ W.cell? p7 = some u7) :
    W'.cell? p0 = some u0 ∧ W'.cell? p1 = some u1 ∧ W'.cell? p2 = some u2 ∧ W'.cell? p3 = some u3 ∧ W'.cell? p4 = some u4 ∧ W'.cell? p5 = some u5 ∧ W'.cell? p6 = some u6 ∧ W'.cell? p7 = some u7 :=
  ⟨keepC hu hS.1, keepC hu hS.2.1, keepC hu hS.2.2.1, keepC hu hS.2.2.2.1, keepC hu hS.2.2.2.2.1, keepC hu hS.2.2.2.2.2.1, keepC hu hS.2.2.2.2.2.2.1, keepC hu hS.2.2.2.2.2.2.2⟩

theorem size_ctB {n t : Nat} {q : Int} {l : List UInt8} (h : ctB l n t q = true) : (⟨l.toArray⟩ : ByteArray).size = 6 + 8 * n := by
  show l.toArray.size = _
  rw [List.size_toArray]
  exact ((ctB_iff _ _ _ _).1 h).1

set_option maxHeartbeats 8000000 in
theorem steps_calls (g X : Nat) (D : Dat) (O : D.Ok) (dk : List UInt8) (htk : D.tk = tkL D.n (secI D.key D.n) D.q D.b dk D.L) (l : Lay) (ol : l.Ok D.n D.t) (j : Nat) (hj : j < D.N) (hlay : layOf D.n D.net j = l.text) (s : St) (hs : s.Ok D 0) (vs : List Int) (hvl : vs.length = D.n) (hvb : ∀ i, i < D.n → 0 ≤ vs.getD i 0 ∧ vs.getD i 0 < (D.t : Int)) (hv : plusI D.n s.cl s.sv D.t = vs) (gm cm gb cb gv cv : Nat) (st : Option Addr) (k c b0 A : Nat) (f : Nat → ByteArray) (hk : k ≤ 9223372036854775807) (hA : A ≤ 100) (w : World)
    (hX : SessAt w X D j 0 s) (hB : BoxAt w g D.n D.t D.q D.b D.key) (hdr : DrawsAt w b0 st k f) (hb0 : b0 ≤ X) (iv : IsI w gv vs) (im : IsI w gm l.M) (ib : IsI w gb l.B) :
    Calls Tryz.prog 25 #[.pointer (some ⟨g, 0, none⟩), .pointer (some ⟨X, 0, none⟩), .agg #[.bool l.bd, .int .i64 (l.s : Int), .slice (some ⟨gm, 0, none⟩) (D.n / 2 * (D.n / 2)) cm, .slice (some ⟨gb, 0, none⟩) D.n cb], .slice (some ⟨gv, 0, none⟩) D.n cv, .slice st k c, .int .i64 (A : Int)] w fun e w' => Mut (fun k => k = X) w w' ∧ ((e = .returned (.bool true) ∧ ∃ s', s'.Ok D 0 ∧ SessAt w' X D (j + 1) 0 s' ∧ plusI D.n s'.cl s'.sv D.t = beI D.n D.t l.bd l.s (alI D.n D.t l.M l.B vs)) ∨ e = .returned (.bool false)) := by
  have hn := O.nt.hn
  have ht := O.nt.t3
  have ht2 := O.nt.ht
  have hn4 : 4 ≤ D.n := by omega
  have hn16 : D.n ≤ 16 := by omega
  have hA0 : (A : Int) ≤ 100 := by omega
  have HD : Hid (∀ i, i ≤ 4 → ∀ W, DrawsAt W b0 st k f → Calls Tryz.prog 73 #[.slice st k c, .int .i64 ((A + i : Nat) : Int)] W fun e w' => e = .returned (.string (f (A + i))) ∧ w' = W) := fun i hi W h => draw_calls st k c b0 (A + i) f W h (by omega) hk
  have HD0 : Hid _ := HD.out 0 (by omega)
  have HD1 : Hid _ := HD.out 1 (by omega)
  have HD2 : Hid _ := HD.out 2 (by omega)
  have HD3 : Hid _ := HD.out 3 (by omega)
  clear HD
  rw [show ((A + 0 : Nat) : Int) = (A : Int) from rfl] at HD0
  rw [show ((A + 1 : Nat) : Int) = (A : Int) + 1 from rfl] at HD1
  rw [show ((A + 2 : Nat) : Int) = (A : Int) + 2 from rfl] at HD2
  rw [show ((A + 3 : Nat) : Int) = (A : Int) + 3 from rfl] at HD3
  have z0 := hdr.siz (A + 0)
  have z1 := hdr.siz (A + 1)
  have z3 := hdr.siz (A + 3)
  generalize f (A + 0) = d0 at HD0 z0
  generalize f (A + 1) = d1 at HD1 z1
  generalize f (A + 2) = d2 at HD2
  generalize f (A + 3) = d3 at HD3 z3
  have eA1 : IntKind.i64.wrap ((A : Int) + 1) = (A : Int) + 1 := IntWalk.i64_in _ (by omega)
  have eA2 : IntKind.i64.wrap ((A : Int) + 2) = (A : Int) + 2 := IntWalk.i64_in _ (by omega)
  have eA3 : IntKind.i64.wrap ((A : Int) + 3) = (A : Int) + 3 := IntWalk.i64_in _ (by omega)
  have eN1 : IntKind.i64.wrap (8 * (D.n : Int)) = 8 * (D.n : Int) := IntWalk.i64_in _ (by omega)
  have eN2 : IntKind.i64.wrap (6 + 8 * (D.n : Int)) = ((6 + 8 * D.n : Nat) : Int) := by rw [IntWalk.i64_in _ (by omega)]; omega
  have HLC : Hid _ := layer_came O dk htk l ol j hlay s hs vs hv d0.data.toList d1.data.toList
  have hs1 := sentW O hs d0.data.toList
  have hzY : (⟨(s.sent D d0.data.toList).y.toArray⟩ : ByteArray).size = 6 + 8 * D.n := size_ctB (hs1.ct (Or.inl rfl))
  have HS0 : Hid (∀ W, SessAt W X D j 0 s → Calls Tryz.prog 29 #[.pointer (some ⟨X, 0, none⟩), .string d0] W fun e w' => e = .returned (.tuple #[.string ⟨(s.sent D d0.data.toList).y.toArray⟩, .int .i64 0]) ∧ SessAt w' X D j 1 (s.sent D d0.data.toList) ∧ Mut (fun k => k = X) W w') := fun W h => Step_0 X D j s d0 W z0 O hs hj h
  generalize (⟨(s.sent D d0.data.toList).y.toArray⟩ : ByteArray) = Y0 at HS0 hzY
  generalize s.sent D d0.data.toList = s1 at HS0 hs1 HLC
  have HS1 : Hid (∀ W, SessAt W X D j 1 s1 → _) := fun W h => Step_1 X D j s1 d1 W z1 O hs1 hj h
  have hXl := hX.lt
  go_enter Tryz.func25, Tryz.ntmps25
  go_wp2_with fail
  obtain ⟨W0, hW0⟩ : ∃ W, W = w.alloc (.cells #[.bool l.bd, .int .i64 (l.s : Int), .slice (some ⟨gm, 0, none⟩) (D.n / 2 * (D.n / 2)) cm, .slice (some ⟨gb, 0, none⟩) D.n cb] 56) := ⟨_, rfl⟩
  have huW : Up w W0 := by rw [hW0]; exact (Up.refl _).alloc _
  have K0 : KW W0 D g b0 st k f gv vs w.heap.size gm cm gb cb l := ⟨hB.up huW, hdr.up huW, iv.up huW, by rw [hW0]; simp, by rw [hW0]; simp, by rw [hW0]; simp, by rw [hW0]; simp, im.up huW, ib.up huW⟩
  have X0 : SessAt W0 X D j 0 s := hX.up huW
  have hGX : w.heap.size ≠ X := by omega
  have mW : Mut (fun k => k = X) w W0 := huW.mut
  rw [← hW0]
  clear hW0 huW hX hB hdr iv im ib
  generalize w.heap.size = G at K0 hGX hXl
  refine Calls.mono (HD0.out _ K0.dr) ?_
  rintro e W ⟨rfl, rfl⟩
  go_wp2_with fail
  refine Calls.mono (HS0.out _ X0) ?_
  rintro e W1 ⟨rfl, X1, m1⟩
  have K1 := K0.mut X0 X1 m1 hb0 hGX
  have mW1 := mW.trans m1
  clear K0 X0 m1 mW
  have hc0 := K1.box.c0
  go_wp2_with fail
  refine (must_calls g _).mono ?_
  rintro e W1' ⟨rfl, rfl⟩
  clear hc0
  go_wp2_with fail
  refine (Output_not X D j 1 s1 _ hj X1).mono ?_
  rintro e W2 ⟨rfl, rfl⟩
  go_wp2_with fail
  refine (must_calls g _).mono ?_
  rintro e W3 ⟨rfl, rfl⟩
  go_wp2_with fail
  refine Calls.mono (HD1.out _ K1.dr) ?_
  rintro e W4 ⟨rfl, rfl⟩
  go_wp2_with fail
  refine Calls.mono (HS1.out _ X1) ?_
  rintro e W5 ⟨m2, ⟨hz, hct, rfl, X2⟩ | ⟨hz, rfl, X2⟩⟩
  · obtain ⟨ls, E, hIs, hdec⟩ : ∃ ls E, IsCT D.n D.t D.q (secI D.key D.n) (linS1 D j s1 d1.data.toList).1 ls E ∧ decI D.n D.t ls = lessI D.n (alI D.n D.t l.M l.B vs) (maskI D.n D.t d1.data.toList) D.t := by
      rcases HLC.out with ⟨_, h⟩ | ⟨h, _⟩
      · exact h
      · rw [h] at hz
        cases hz
    have K2 := K1.mut X1 X2 m2 hb0 hGX
    have mW2 := mW1.trans m2
    clear K1 X1 m2 mW1 HS0 HS1 HLC HD0
    have h256 : ((256 ^ 2 : Nat) : Int) = 65536 := by decide
    have p := O.goodP
    have hs2 := answeredW O hs1 j d1.data.toList hct
    have hop := layer_opened O l j s1 vs d1.data.toList hIs hdec
    have hzY1 : (⟨(linS1 D j s1 d1.data.toList).1.toArray⟩ : ByteArray).size = 6 + 8 * D.n := size_ctB hct
    have hmL : (maskI D.n D.t d1.data.toList).length = D.n := maskI_length _ _ _
    have hmB := maskI_lt D.n D.t d1.data.toList (by omega)
    have hvd : valsI D.n D.t d1.data.toList = maskI D.n D.t d1.data.toList := vals_mask _ _ _
    have hs2v : (s1.answered D j d1.data.toList).sv = maskI D.n D.t d1.data.toList := rfl
    generalize maskI D.n D.t d1.data.toList = mk at hop hmL hmB hvd hdec hs2v
    have hzL : (alI D.n D.t l.M l.B vs).length = D.n := alI_length _ _ _ _ _
    have hzB := alI_small D.n D.t l.M l.B vs (by omega)
    have HAp : Hid (∀ W, IsI W gm l.M → IsI W gb l.B → IsI W gv vs → Calls Tryz.prog 27 #[.agg #[.bool l.bd, .int .i64 (l.s : Int), .slice (some ⟨gm, 0, none⟩) (D.n / 2 * (D.n / 2)) cm, .slice (some ⟨gb, 0, none⟩) D.n cb], .agg #[.int .i64 D.n, .int .i64 D.t, .int .i64 D.q, .int .i64 D.b], .slice (some ⟨gv, 0, none⟩) D.n cv] W fun e w' => ∃ gp cp : Nat, e = .returned (.slice (some ⟨gp, 0, none⟩) D.n cp) ∧ IsI w' gp (alI D.n D.t l.M l.B vs) ∧ Up W w') := fun W h1 h2 h3 => applied_row D.n D.t D.q D.b l.bd l.s l.M l.B vs gm _ cm gb cb gv cv W hn (by omega) (by omega) rfl ol.hM ol.hB hvl ol.bM ol.bB hvb h1 h2 h3
    have HBe : Hid (∀ W gp cp, IsI W gp (alI D.n D.t l.M l.B vs) → Calls Tryz.prog 26 #[.agg #[.bool l.bd, .int .i64 (l.s : Int), .slice (some ⟨gm, 0, none⟩) (D.n / 2 * (D.n / 2)) cm, .slice (some ⟨gb, 0, none⟩) D.n cb], .agg #[.int .i64 D.n, .int .i64 D.t, .int .i64 D.q, .int .i64 D.b], .slice (some ⟨gp, 0, none⟩) D.n cp] W fun e w' => ∃ gp cp : Nat, e = .returned (.slice (some ⟨gp, 0, none⟩) D.n cp) ∧ IsI w' gp (beI D.n D.t l.bd l.s (alI D.n D.t l.M l.B vs)) ∧ Up W w') := fun W gp cp h => bent_row D.n D.t D.q D.b l.bd l.s _ _ _ gp cp W ol.hs hn4 hn16 (by omega) (by omega) hzL hzB h
    generalize hal : alI D.n D.t l.M l.B vs = al at hop hzL hzB hdec HAp HBe
    have HAL : Hid (alI D.n D.t l.M l.B vs = al) := hal
    clear hal
    have HVd : Hid (∀ W, Calls Tryz.prog 17 #[.agg #[.int .i64 D.n, .int .i64 D.t, .int .i64 D.q, .int .i64 D.b], .string d1] W fun e w' => ∃ gp cp : Nat, e = .returned (.slice (some ⟨gp, 0, none⟩) D.n cp) ∧ IsI w' gp mk ∧ Up W w') := fun W => by
      have := values_row D.n D.t D.q D.b d1 W z1 hn4 hn16 (by omega) (by omega)
      rw [hvd] at this
      exact this
    have HTm : Hid (∀ W gp cp, IsI W gp mk → Calls Tryz.prog 21 #[.slice (some ⟨gp, 0, none⟩) D.n cp] W fun e w' => e = .returned (.string ⟨(textsL 2 mk).toArray⟩) ∧ Up W w') := fun W gp cp hi => keepText_calls D.n mk gp cp W hmL (by omega) (fun i hi => by have := hmB i hi; omega) hi
    have HVm : Hid (∀ W, Calls Tryz.prog 17 #[.agg #[.int .i64 D.n, .int .i64 D.t, .int .i64 D.q, .int .i64 D.b], .string ⟨(textsL 2 mk).toArray⟩] W fun e w' => ∃ gp cp : Nat, e = .returned (.slice (some ⟨gp, 0, none⟩) D.n cp) ∧ IsI w' gp mk ∧ Up W w') := fun W => by
      have := values_row D.n D.t D.q D.b ⟨(textsL 2 mk).toArray⟩ W (size_texts mk D.n hmL (by omega)) hn4 hn16 (by omega) (by omega)
      rw [bytes_back, vals_texts D.n D.t mk hmL (by omega) hmB] at this
      exact this
    have HLs : Hid (∀ W ga ca gc cc, IsI W ga al → IsI W gc mk → Calls Tryz.prog 70 #[.agg #[.int .i64 D.n, .int .i64 D.t, .int .i64 D.q, .int .i64 D.b], .slice (some ⟨ga, 0, none⟩) D.n ca, .slice (some ⟨gc, 0, none⟩) D.n cc, .int .i64 (-1)] W fun e w' => ∃ gp cp : Nat, e = .returned (.slice (some ⟨gp, 0, none⟩) D.n cp) ∧ IsI w' gp (lessI D.n al mk D.t) ∧ Up W w') := fun W ga ca gc cc ia ic => less_row D.n D.t D.q D.b al mk ga gc ca cc W hn4 hn16 (by omega) (by omega) hzL hmL hzB hmB ia ic
    have HOp : Hid (∀ W gp cp, BoxAt W g D.n D.t D.q D.b D.key → IsI W gp (lessI D.n al mk D.t) → Calls Tryz.prog 62 #[.pointer (some ⟨g, 0, none⟩), .string ⟨(linS1 D j s1 d1.data.toList).1.toArray⟩, .slice (some ⟨gp, 0, none⟩) D.n cp] W fun e w' => e = .returned (.tuple #[]) ∧ Up W w') := fun W gp cp hB hi => opens_box g D.n D.t D.q D.b D.key _ ls _ E gp cp W p O.sec hB hIs hdec hi
    have HSh2 : Hid (∀ W, SessAt W X D j 2 (s1.answered D j d1.data.toList) → Calls Tryz.prog 54 #[.pointer (some ⟨X, 0, none⟩)] W fun e w' => e = .returned (.tuple #[.string ⟨(textsL 2 (s1.answered D j d1.data.toList).cl).toArray⟩, .string ⟨(textsL 2 mk).toArray⟩]) ∧ Up W w') := fun W h => by
      have := Shares_calls X D j 2 _ W O hs2 h
      rw [hs2v] at this
      exact this
    generalize (⟨(textsL 2 mk).toArray⟩ : ByteArray) = MT at HTm HVm HSh2
    generalize (⟨(linS1 D j s1 d1.data.toList).1.toArray⟩ : ByteArray) = Y1 at hzY1 HOp
    generalize s1.answered D j d1.data.toList = s2 at hs2 hop X2 HSh2 hs2v
    generalize (⟨(textsL 2 s2.cl).toArray⟩ : ByteArray) = CT at HSh2
    have hs3 := openedW O hs2
    have hsum3 := hop.2.2
    have HS2 : Hid (∀ W, SessAt W X D j 2 s2 → Calls Tryz.prog 29 #[.pointer (some ⟨X, 0, none⟩), .string d2] W fun e w' => e = .returned (.tuple #[.string ⟨#[]⟩, .int .i64 0]) ∧ SessAt w' X D j 3 (s2.opened D) ∧ Mut (fun k => k = X) W w') := fun W h => Step_2 X D j s2 d2 W O hs2 hj h
    clear hop hs2v hdec hIs hct hz hvd
    generalize s2.opened D = s3 at hs3 hsum3 HS2
    have HSh3 : Hid (∀ W gp cp, SessAt W X D j 3 s3 → BoxAt W g D.n D.t D.q D.b D.key → IsI W gp al → Calls Tryz.prog 22 #[.pointer (some ⟨g, 0, none⟩), .pointer (some ⟨X, 0, none⟩), .slice (some ⟨gp, 0, none⟩) D.n cp] W fun e w' => e = .returned (.tuple #[]) ∧ Up W w') := fun W gp cp hX hB hi => shares_box g X D j 3 s3 al gp cp W O hs3 hX hB hsum3 hi
    have hs4 := bentW O hs3 j d3.data.toList
    have hsum4 := layer_bent O l ol j hlay s3 al d3.data.toList hsum3
    have HS3 : Hid (∀ W, SessAt W X D j 3 s3 → Calls Tryz.prog 29 #[.pointer (some ⟨X, 0, none⟩), .string d3] W fun e w' => e = .returned (.tuple #[.string ⟨#[]⟩, .int .i64 0]) ∧ SessAt w' X D (j + 1) 0 (s3.bent D j d3.data.toList) ∧ Mut (fun k => k = X) W w') := fun W h => Step_3 X D j s3 d3 W z3 O hs3 hj h
    generalize s3.bent D j d3.data.toList = s4 at hs4 hsum4 HS3
    have HSum4 : Hid _ := hsum4
    generalize hbe : beI D.n D.t l.bd l.s al = be at HSum4 hsum4 HBe
    have HBQ : Hid (beI D.n D.t l.bd l.s al = be) := hbe
    clear hbe
    have HSh4 : Hid (∀ W gp cp, SessAt W X D (j + 1) 0 s4 → BoxAt W g D.n D.t D.q D.b D.key → IsI W gp be → Calls Tryz.prog 22 #[.pointer (some ⟨g, 0, none⟩), .pointer (some ⟨X, 0, none⟩), .slice (some ⟨gp, 0, none⟩) D.n cp] W fun e w' => e = .returned (.tuple #[]) ∧ Up W w') := fun W gp cp hX hB hi => shares_box g X D (j + 1) 0 s4 be gp cp W O hs4 hX hB hsum4 hi
    have HS4 : Hid _ := hs4
    clear hsum3 hsum4 hs2 hs3 hs4 hs hs1 hv hvl hvb hzL hzB hmL hmB z0 z1 z3 hlay htk ol hj
    have hc0 := K2.box.c0
    go_wp2_with fail
    refine (must_calls g _).mono ?_
    rintro e W6 ⟨rfl, rfl⟩
    have hc1 := K2.box.c1
    have hc2 := K2.box.c2
    have hc3 := K2.box.c3
    have hL0 := K2.l0
    have hL1 := K2.l1
    have hL2 := K2.l2
    have hL3 := K2.l3
    clear hzY hzY1 eN1 eN2
    go_wp2_with fail
    go_region_held3 (fun w' => w'.cell? ⟨g, 0, none⟩ = some (.int .i64 (D.n : Int)) ∧ w'.cell? ⟨g, 1, none⟩ = some (.int .i64 (D.t : Int)) ∧ w'.cell? ⟨g, 2, none⟩ = some (.int .i64 D.q) ∧ w'.cell? ⟨g, 3, none⟩ = some (.int .i64 D.b) ∧ w'.cell? ⟨G, 0, none⟩ = some (.bool l.bd) ∧ w'.cell? ⟨G, 1, none⟩ = some (.int .i64 (l.s : Int)) ∧ w'.cell? ⟨G, 2, none⟩ = some (.slice (some ⟨gm, 0, none⟩) (D.n / 2 * (D.n / 2)) cm) ∧ w'.cell? ⟨G, 3, none⟩ = some (.slice (some ⟨gb, 0, none⟩) D.n cb)) (first | go_keep | exact keepC8w hua1 (by assumption))
      ((first | (go_at_call 27; refine Calls.mono (HAp.out _ (K2.im.up (Up.drew (Up.refl _))) (K2.ib.up (Up.drew (Up.refl _))) (K2.iv.up (Up.drew (Up.refl _)))) ?_; rintro e wa1 ⟨gs, cs, rfl, is, hua1⟩)))
    have hua : Up W6 wa1 := Up.trans (Up.drew (Up.refl _)) hua1
    clear hc0 hc1 hc2 hc3 hL0 hL1 hL2 hL3 hua1
    have K3 := K2.up hua
    have X3 := X2.up hua
    have mW3 := mW2.trans hua.mut
    clear K2 X2 mW2 hua
    go_wp2_with fail
    refine Calls.mono (HSh2.out _ X3) ?_
    rintro e W7 ⟨rfl, hu7⟩
    have K4 := K3.up hu7
    have X4 := X3.up hu7
    have mW4 := mW3.trans hu7.mut
    have is4 := is.up hu7
    clear K3 X3 mW3 is hu7
    have hc0 := K4.box.c0
    have hc1 := K4.box.c1
    have hc2 := K4.box.c2
    have hc3 := K4.box.c3
    go_wp2_with fail
    go_region_held3 (fun w' => w'.cell? ⟨g, 0, none⟩ = some (.int .i64 (D.n : Int)) ∧ w'.cell? ⟨g, 1, none⟩ = some (.int .i64 (D.t : Int)) ∧ w'.cell? ⟨g, 2, none⟩ = some (.int .i64 D.q) ∧ w'.cell? ⟨g, 3, none⟩ = some (.int .i64 D.b)) (first | go_keep | exact keepC4 hua2 (by assumption) | exact keepC4 hua1 (by assumption))
      ((first | (go_at_call 73; refine Calls.mono (HD1.out _ (K4.dr.up (Up.drew (Up.refl _)))) ?_; rintro e wd ⟨rfl, rfl⟩) | (go_at_call 17; refine Calls.mono (HVd.out _) ?_; rintro e wa1 ⟨gq, cq, rfl, iq, hua1⟩) | (go_at_call 21; refine Calls.mono (HTm.out _ gq cq iq) ?_; rintro e wa2 ⟨rfl, hua2⟩) | (go_at_call 24; refine (must_calls g _).mono ?_; rintro e wa3 ⟨rfl, rfl⟩)))
    have hua : Up W7 wa3 := Up.trans (Up.trans (Up.drew (Up.refl _)) hua1) hua2
    clear hc0 hc1 hc2 hc3 hua1 hua2 iq
    have K5 := K4.up hua
    have X5 := X4.up hua
    have mW5 := mW4.trans hua.mut
    have is5 := is4.up hua
    clear K4 X4 mW4 hua is4
    have hc0 := K5.box.c0
    have hc1 := K5.box.c1
    have hc2 := K5.box.c2
    have hc3 := K5.box.c3
    go_wp2_with fail
    go_region_held3 (fun w' => w'.cell? ⟨g, 0, none⟩ = some (.int .i64 (D.n : Int)) ∧ w'.cell? ⟨g, 1, none⟩ = some (.int .i64 (D.t : Int)) ∧ w'.cell? ⟨g, 2, none⟩ = some (.int .i64 D.q) ∧ w'.cell? ⟨g, 3, none⟩ = some (.int .i64 D.b)) (first | go_keep | exact keepC4 hua3 (by assumption) | exact keepC4 hua2 (by assumption) | exact keepC4 hua1 (by assumption))
      ((first | (go_at_call 17; refine Calls.mono (HVm.out _) ?_; rintro e wb1 ⟨gq, cq, rfl, iq, hua1⟩) | (go_at_call 70; refine Calls.mono (HLs.out _ gs cs gq cq (is5.up (Up.trans (Up.drew (Up.refl _)) hua1)) iq) ?_; rintro e wb2 ⟨gr, cr, rfl, ir, hua2⟩) | (go_at_call 62; refine Calls.mono (HOp.out _ gr cr (K5.box.up (Up.trans (Up.trans (Up.drew (Up.refl _)) hua1) hua2)) ir) ?_; rintro e wb3 ⟨rfl, hua3⟩)))
    have hua : Up wa3 wb3 := Up.trans (Up.trans (Up.trans (Up.drew (Up.refl _)) hua1) hua2) hua3
    clear hc0 hc1 hc2 hc3 hua1 hua2 hua3 iq ir
    have K6 := K5.up hua
    have X6 := X5.up hua
    have mW6 := mW5.trans hua.mut
    have is6 := is5.up hua
    clear K5 X5 mW5 hua is5
    go_wp2_with fail
    refine Calls.mono (HD2.out _ K6.dr) ?_
    rintro e W8 ⟨rfl, rfl⟩
    go_wp2_with fail
    refine Calls.mono (HS2.out _ X6) ?_
    rintro e W9 ⟨rfl, X7, m7⟩
    have K7 := K6.mut X6 X7 m7 hb0 hGX
    have is7 := is6.step X6 X7 m7
    have mW7 := mW6.trans m7
    clear K6 X6 mW6 m7 is6
    go_wp2_with fail
    refine (must_calls g _).mono ?_
    rintro e W10 ⟨rfl, rfl⟩
    go_wp2_with fail
    refine Calls.mono (HSh3.out _ gs cs X7 K7.box is7) ?_
    rintro e W11 ⟨rfl, hu11⟩
    have K8 := K7.up hu11
    have X8 := X7.up hu11
    have mW8 := mW7.trans hu11.mut
    have is8 := is7.up hu11
    clear K7 X7 mW7 hu11 is7
    go_wp2_with fail
    refine Calls.mono (HD3.out _ K8.dr) ?_
    rintro e W12 ⟨rfl, rfl⟩
    go_wp2_with fail
    refine Calls.mono (HS3.out _ X8) ?_
    rintro e W13 ⟨rfl, X9, m9⟩
    have K9 := K8.mut X8 X9 m9 hb0 hGX
    have is9 := is8.step X8 X9 m9
    have mW9 := mW8.trans m9
    clear K8 X8 mW8 m9 is8
    go_wp2_with fail
    refine (must_calls g _).mono ?_
    rintro e W14 ⟨rfl, rfl⟩
    have hc0 := K9.box.c0
    have hc1 := K9.box.c1
    have hc2 := K9.box.c2
    have hc3 := K9.box.c3
    have hL0 := K9.l0
    have hL1 := K9.l1
    have hL2 := K9.l2
    have hL3 := K9.l3
    go_wp2_with fail
    go_region_held3 (fun w' => w'.cell? ⟨g, 0, none⟩ = some (.int .i64 (D.n : Int)) ∧ w'.cell? ⟨g, 1, none⟩ = some (.int .i64 (D.t : Int)) ∧ w'.cell? ⟨g, 2, none⟩ = some (.int .i64 D.q) ∧ w'.cell? ⟨g, 3, none⟩ = some (.int .i64 D.b) ∧ w'.cell? ⟨G, 0, none⟩ = some (.bool l.bd) ∧ w'.cell? ⟨G, 1, none⟩ = some (.int .i64 (l.s : Int)) ∧ w'.cell? ⟨G, 2, none⟩ = some (.slice (some ⟨gm, 0, none⟩) (D.n / 2 * (D.n / 2)) cm) ∧ w'.cell? ⟨G, 3, none⟩ = some (.slice (some ⟨gb, 0, none⟩) D.n cb)) (first | go_keep | exact keepC8w hua2 (by assumption) | exact keepC8w hua1 (by assumption))
      ((first | (go_at_call 26; refine Calls.mono (HBe.out _ gs cs (is9.up (Up.drew (Up.refl _)))) ?_; rintro e wc1 ⟨gt, ct, rfl, it, hua1⟩) | (go_at_call 22; refine Calls.mono (HSh4.out _ gt ct (X9.up (Up.trans (Up.drew (Up.refl _)) hua1)) (K9.box.up (Up.trans (Up.drew (Up.refl _)) hua1)) it) ?_; rintro e wc2 ⟨rfl, hua2⟩)))
    have hua : Up W14 wc2 := Up.trans (Up.trans (Up.drew (Up.refl _)) hua1) hua2
    clear hc0 hc1 hc2 hc3 hL0 hL1 hL2 hL3 hua1 hua2 it
    have K10 := K9.up hua
    have X10 := X9.up hua
    have mW10 := mW9.trans hua.mut
    clear K9 X9 mW9 hua is9
    have hc5 := K10.box.c5
    go_wp2_with fail
    go_ret
    exact ⟨mW10, Or.inl ⟨rfl, s4, HS4.out, X10, by rw [HAL.out, HBQ.out]; exact HSum4.out⟩⟩
  · have hfit : fitsB D.t D.q (mostE D.n D.t (D.q % (D.t : Int)).toNat (tnN D.n D.L D.b) : Nat) = false := by
      rcases HLC.out with ⟨h, _⟩ | ⟨_, h⟩
      · rw [h] at hz
        cases hz
      · exact h
    have K2 := K1.mut X1 X2 m2 hb0 hGX
    have mW2 := mW1.trans m2
    clear K1 X1 m2 mW1 HS0 HS1 HLC HD0 HD1 HD2 HD3 X2
    have p := O.goodP
    have hL30 := O.dig.le O.b1 O.q2
    have hm := mod_bounds (show (0 : Int) < (D.t : Int) by omega) D.q
    have HMo : Hid _ := fun W => most_calls D.n D.t D.L D.q D.b W p O.b1 O.b2 O.dig
    have hle := mostE_le D.n D.t (D.q % (D.t : Int)).toNat (tnN D.n D.L D.b) (by omega) (by omega) (by omega) (by omega) (tnN_le D.n D.L D.b (by omega) hL30 O.b1 O.b2)
    generalize mostE D.n D.t (D.q % (D.t : Int)).toNat (tnN D.n D.L D.b) = mo at HMo hle hfit
    have hq1 := O.q1
    have hq2 := O.q2
    have HFt : Hid (∀ W, Calls Tryz.prog 74 #[.agg #[.int .i64 D.n, .int .i64 D.t, .int .i64 D.q, .int .i64 D.b], .int .i64 (mo : Nat)] W fun r w' => r = .returned (.bool false) ∧ Up W w') := fun W => by
      have := keepFits_calls D.n D.t D.q D.b (mo : Nat) W (by omega) (by omega) (by omega) (by omega) (by omega) (by omega)
      rw [hfit] at this
      exact this
    have hc0 := K2.box.c0
    have hc1 := K2.box.c1
    have hc2 := K2.box.c2
    have hc3 := K2.box.c3
    clear hm hfit hle
    go_wp2_with fail
    go_region_held3 (fun w' => w'.cell? ⟨g, 0, none⟩ = some (.int .i64 (D.n : Int)) ∧ w'.cell? ⟨g, 1, none⟩ = some (.int .i64 (D.t : Int)) ∧ w'.cell? ⟨g, 2, none⟩ = some (.int .i64 D.q) ∧ w'.cell? ⟨g, 3, none⟩ = some (.int .i64 D.b))
      (first | go_keep | exact keepC4 hua2 (by assumption) | exact keepC4 hua1 (by assumption))
      ((first | (go_at_call 75; refine Calls.mono (HMo.out _) ?_; rintro e wa1 ⟨rfl, hua1⟩) | (go_at_call 74; refine Calls.mono (HFt.out _) ?_; rintro e wa2 ⟨rfl, hua2⟩)))
    have hua : Up W5 wa2 := Up.trans (Up.trans (Up.drew (Up.refl _)) hua1) hua2
    clear hc0 hc1 hc2 hc3 hua1 hua2 K2
    go_wp2_with fail
    refine (must_calls g _).mono ?_
    rintro e w7 ⟨rfl, rfl⟩
    go_wp2_with fail
    go_ret
    exact ⟨mW2.trans hua.mut, Or.inr rfl⟩

end Go.Proofs.YtcjhgbljhpflfabGreat
