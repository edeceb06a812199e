/-
  Walks: the reference's session: a mask, a step.
  Walks: the reference's session: steps that hide and open.
  Walks: the reference's session: steps that ask a layer.
-/
import Derived.Test.YtcjhgbljhpflfabGreatCodeSn
import Derived.Test.YtcjhgbljhpflfabGreatWalksB
namespace Go.Proofs.YtcjhgbljhpflfabGreat
open Go.RowKit
set_option linter.unusedVariables false
set_option maxRecDepth 100000

set_option maxHeartbeats 2000000 in
theorem refMask_calls (n t : Nat) (q b : Int) (s : ByteArray) (w : World) (hs : s.size ≤ maxLen) (hn : n ≤ 16) (ht : 1 ≤ t) (ht2 : t ≤ 1021) :
    Calls Tryz.prog 142 #[.agg #[.int .i64 n, .int .i64 t, .int .i64 q, .int .i64 b], .string s] w fun e w' => e = .returned (.string ⟨(textsL 2 (maskI n t s.data.toList)).toArray⟩) ∧ Up w w' := by
  have ed1 : ¬ (t : Int) = 0 := by omega
  have ed2 : ¬ t = 0 := by omega
  have ed0 : ((t : Int) == 0) = false := beq_eq_false_iff_ne.2 ed1
  have HMe : Hid (∀ k, (List.range k).map (fun i => (numL s.data.toList (2 * i) 2 : Int) % t) = maskI k t s.data.toList) := fun k => rfl
  have HS1 : Hid (∀ k, maskI (k + 1) t s.data.toList = maskI k t s.data.toList ++ [(numL s.data.toList (2 * k) 2 : Int) % t]) := fun k => map_range_succ _ _
  have HSl : Hid (∀ k, (maskI k t s.data.toList).length = k) := fun k => maskI_length _ _ _
  obtain ⟨W, hW⟩ : ∃ W, W = w.alloc (.cells #[.int .i64 n, .int .i64 t, .int .i64 q, .int .i64 b] 23) := ⟨_, rfl⟩
  have huW : Up w W := by rw [hW]; exact (Up.refl _).alloc _
  have KS0 : Hid (W.cell? ⟨w.heap.size, 0, none⟩ = some (.int .i64 (n : Int))) := show W.cell? ⟨w.heap.size, 0, none⟩ = some (.int .i64 (n : Int)) from by rw [hW]; simp [go_sem]
  have KS1 : Hid (W.cell? ⟨w.heap.size, 1, none⟩ = some (.int .i64 (t : Int))) := show W.cell? ⟨w.heap.size, 1, none⟩ = some (.int .i64 (t : Int)) from by rw [hW]; simp [go_sem]
  go_enter Tryz.func142, Tryz.ntmps142
  go_wp2_with fail
  rw [← hW]
  clear hW
  go_loopw [5, 6] (fun ss sj wr => ∃ k : Nat, k ≤ n ∧ sj = .int .i64 (k : Int) ∧ ss = .string ⟨(textsL 2 (maskI k t s.data.toList)).toArray⟩ ∧ Up W wr) (fun _ sj _ => n - (intOf sj).toNat)
  case atStart => exact ⟨0, Nat.zero_le _, rfl, rfl, Up.refl _⟩
  case round =>
    obtain ⟨k, hk, rfl, rfl, hu⟩ := hrel
    have hS0 := keepC hu KS0.out
    have hlen : (textsL 2 (maskI k t s.data.toList)).length = 2 * k := by rw [textsL_length, HSl.out]
    by_cases hkd : k < n
    · have hS1 := keepC hu KS1.out
      have HNu : Hid (∀ W, Calls Tryz.prog 99 #[.string s, .int .i64 (2 * (k : Int)), .int .i64 2] W fun e w' => e = .returned (.int .i64 (numL s.data.toList (2 * k) 2)) ∧ w' = W) := fun W => by
        have := Number_calls s (2 * (k : Int)) 2 W hs (by omega) (by omega) (by omega)
        rw [show (2 * (k : Int)).toNat = 2 * k by omega] at this
        exact this
      have hx := numL_two s.data.toList (2 * k)
      have HSk : Hid _ := HS1.out k
      generalize numL s.data.toList (2 * k) 2 = x at HNu hx HSk
      have e1 : (x : Int).tmod (t : Int) = (x : Int) % (t : Int) := Int.tmod_eq_emod_of_nonneg (by omega)
      have hy := mod_bounds (show (0 : Int) < (t : Int) by omega) (x : Int)
      generalize (x : Int) % (t : Int) = y at e1 hy HSk
      have hadd := add_str (textsL 2 (maskI k t s.data.toList)) (textL y.toNat 2) (by omega) (by rw [textL_length]; omega)
      have HTx : Hid (∀ W, Calls Tryz.prog 105 #[.int .i64 y, .int .i64 2] W fun r w' => r = .returned (.string ⟨(textL y.toNat 2).toArray⟩) ∧ Up W w') := fun W => Text_calls 2 (by omega) y 2 W (by omega) (by omega) rfl
      have HNx : Hid (textsL 2 (maskI k t s.data.toList) ++ textL y.toNat 2 = textsL 2 (maskI (k + 1) t s.data.toList)) := show _ = _ by rw [HSk.out, textsL_snoc]
      rw [HNx.out] at hadd
      generalize hT1 : textsL 2 (maskI (k + 1) t s.data.toList) = T1 at hadd
      have HT1 : Hid _ := hT1
      clear hT1 HNx hlen HSk
      generalize textsL 2 (maskI k t s.data.toList) = T0 at hadd ⊢
      generalize textL y.toNat 2 = X1 at hadd HTx
      have e2 : IntKind.i64.wrap (2 * (k : Int)) = 2 * (k : Int) := IntWalk.i64_in _ (by omega)
      go_wp2_with fail
      go_region_held3 (fun w' => w'.cell? ⟨w.heap.size, 1, none⟩ = some (.int .i64 (t : Int)))
        (first | go_keep | exact keepU hu2 (by assumption))
        ((first | (go_at_call 99; refine Calls.mono (HNu.out _) ?_; rintro e w1 ⟨rfl, rfl⟩) | (go_at_call 105; refine Calls.mono (HTx.out _) ?_; rintro e w2 ⟨rfl, hu2⟩)))
      clear hS0 hS1
      go_wp2_with fail
      go_roundw
      case rel => exact ⟨k + 1, by omega, by go_num, by rw [HT1.out], hu.trans (Up.trans (Up.drew (Up.refl _)) hu2)⟩
      case measure => simp [intOf]; omega
    · obtain rfl : k = n := by omega
      go_wp2_with fail
      go_ret
      exact ⟨rfl, huW.trans hu⟩

/-- the cells of the reference's session -/
structure RC (w : World) (R : Nat) (n t : Nat) (q b : Int) (net key turn input : ByteArray) (vd : Value) : Prop where
  c0 : w.cell? ⟨R, 0, none⟩ = some (.int .i64 (n : Int))
  c1 : w.cell? ⟨R, 1, none⟩ = some (.int .i64 (t : Int))
  c2 : w.cell? ⟨R, 2, none⟩ = some (.int .i64 q)
  c3 : w.cell? ⟨R, 3, none⟩ = some (.int .i64 b)
  c4 : w.cell? ⟨R, 4, none⟩ = some (.string net)
  c5 : w.cell? ⟨R, 5, none⟩ = some (.string key)
  c6 : w.cell? ⟨R, 6, none⟩ = some (.string turn)
  c7 : w.cell? ⟨R, 7, none⟩ = some (.string input)
  c8 : w.cell? ⟨R, 8, none⟩ = some vd
  fz : ∀ o, w.frozen? ⟨R, o, none⟩ = false

theorem RC.lt {w : World} {R n t : Nat} {q b : Int} {net key turn input : ByteArray} {vd : Value} (h : RC w R n t q b net key turn input vd) : R < w.heap.size := World.block_lt_of_cell? w ⟨R, 0, none⟩ h.c0

theorem RC.mut {S : Nat → Prop} {w w' : World} {R n t : Nat} {q b : Int} {net key turn input : ByteArray} {vd : Value} (h : RC w R n t q b net key turn input vd) (m : Mut S w w') (hn : ¬ S R) : RC w' R n t q b net key turn input vd :=
  ⟨m.cell h.c0 hn, m.cell h.c1 hn, m.cell h.c2 hn, m.cell h.c3 hn, m.cell h.c4 hn, m.cell h.c5 hn, m.cell h.c6 hn, m.cell h.c7 hn, m.cell h.c8 hn, fun o => m.frozen (h.fz o) h.lt hn⟩

theorem RC.up {w w' : World} {R n t : Nat} {q b : Int} {net key turn input : ByteArray} {vd : Value} (h : RC w R n t q b net key turn input vd) (hu : Up w w') : RC w' R n t q b net key turn input vd :=
  h.mut (S := fun _ => False) hu.mut (fun c => c)

/-- the texts of a session are those of its data -/
structure Dat.Is (D : Dat) (net key turn : ByteArray) : Prop where
  enet : net.data.toList = D.net
  ekey : key.data.toList = D.key
  eturn : turn.data.toList = D.tk
  lnet : net.size ≤ maxLen
  lkey : key.size ≤ maxLen
  lturn : turn.size ≤ maxLen

theorem size_text {xs : List Int} {n : Nat} (h : xs.length = n) (hn : n ≤ 16) : (⟨(textsL 2 xs).toArray⟩ : ByteArray).size ≤ maxLen := by
  show (textsL 2 xs).toArray.size ≤ _
  rw [List.size_toArray, textsL_length, h]
  unfold maxLen
  omega

theorem size_list {l : List UInt8} (h : l.length ≤ 1000) : (⟨l.toArray⟩ : ByteArray).size ≤ maxLen := by
  show l.toArray.size ≤ _
  rw [List.size_toArray]
  unfold maxLen
  omega

theorem list_back (l : List UInt8) : (⟨l.toArray⟩ : ByteArray).data.toList = l := rfl

end Go.Proofs.YtcjhgbljhpflfabGreat

namespace Go.Proofs.YtcjhgbljhpflfabGreat
open Go.RowKit
set_option linter.unusedVariables false
set_option maxRecDepth 100000

set_option maxHeartbeats 4000000 in
theorem stepped_0 (R : Nat) (D : Dat) (j : Nat) (s : St) (d : ByteArray) (e0 : Int) (net key turn input : ByteArray) (vd : Value) (w : World) (hd : d.size ≤ maxLen) (O : D.Ok) (I : D.Is net key turn) (hs : s.Ok D 0) (hj : j < D.N) (h : RC w R D.n D.t D.q D.b net key turn input vd) :
    Calls Tryz.prog 115 #[.pointer (some ⟨R, 0, none⟩), .agg #[.string ⟨(textsL 2 s.cl).toArray⟩, .string ⟨(textsL 2 s.sv).toArray⟩, .string ⟨s.y.toArray⟩, .int .i64 e0], .int .i64 (4 * (j : Int)), .string d] w fun e w' => e = .returned (.agg #[.string ⟨(textsL 2 s.cl).toArray⟩, .string ⟨(textsL 2 s.sv).toArray⟩, .string ⟨(s.sent D d.data.toList).y.toArray⟩, .int .i64 0]) ∧ Up w w' := by
  have g := O.nt
  have hhf := g.half
  have ht := g.t3
  have ht2 := g.ht
  have h256 : ((256 ^ 2 : Nat) : Int) = 65536 := by decide
  have hN := O.N1
  have HB : Hid (∀ W, Calls Tryz.prog 97 #[.string net, .int .i64 1] W fun e w' => e = .returned (.int .i64 (D.N : Nat)) ∧ w' = W) := fun W => by
    have := Byte_calls net 1 W I.lnet (by omega)
    rw [I.enet] at this
    exact this
  have hle : 2 + j * sizN D.n + sizN D.n ≤ net.size := by
    have h5 := ((netB_iff _ _ _).1 O.net).2.2.2.2.1
    have h6 : net.data.toList.length = net.size := by simp
    have h7 := Nat.mul_le_mul_right (sizN D.n) (show j + 1 ≤ byteL D.net 1 from hj)
    rw [Nat.succ_mul] at h7
    rw [← I.enet, h6] at h5
    rw [I.enet] at h5
    omega
  have HLo : Hid (∀ W, Calls Tryz.prog 141 #[.agg #[.int .i64 D.n, .int .i64 D.t, .int .i64 D.q, .int .i64 D.b], .string net, .int .i64 (j : Nat)] W fun e w' => e = .returned (.string (layX D.n net j)) ∧ Up W w') := fun W => LayerOf_calls D.n j D.t D.q D.b net W I.lnet g.hn (by omega) hle
  have hLX : (layX D.n net j).data.toList = layOf D.n D.net j := by rw [layX_list D.n net j hle, I.enet]
  have hLs : (layX D.n net j).size ≤ maxLen := by unfold layX; simp; have := I.lnet; omega
  have HMk : Hid (∀ W, Calls Tryz.prog 142 #[.agg #[.int .i64 D.n, .int .i64 D.t, .int .i64 D.q, .int .i64 D.b], .string d] W fun e w' => e = .returned (.string ⟨(textsL 2 (maskI D.n D.t d.data.toList)).toArray⟩) ∧ Up W w') := fun W => refMask_calls D.n D.t D.q D.b d W hd (by omega) (by omega) ht2
  obtain ⟨kk, hkk⟩ : ∃ k : Int, k = (4 * (j : Int)) := ⟨_, rfl⟩
  have hkb : 0 ≤ kk := by omega
  have hkc : kk ≤ 100 := by omega
  have hk0 : kk / 4 = (j : Int) := by omega
  have hk1 : kk % 4 = 0 := by omega
  have hk2 : kk.tdiv 4 = (j : Int) := by rw [Int.tdiv_eq_ediv_of_nonneg (by omega)]; exact hk0
  have hk3 : kk.tmod 4 = 0 := by rw [Int.tmod_eq_emod_of_nonneg (by omega)]; exact hk1
  have hk4 : IntKind.i64.wrap (j : Int) = (j : Int) := IntWalk.i64_in _ (by omega)
  have hk5 : ¬ (D.N : Int) ≤ (j : Int) := by omega
  rw [← hkk]
  clear hkk
  have HEn : Hid (∀ W, Calls Tryz.prog 143 #[.agg #[.int .i64 D.n, .int .i64 D.t, .int .i64 D.q, .int .i64 D.b], .string key, .string ⟨(textsL 2 s.cl).toArray⟩, .string d] W fun e w' => e = .returned (.tuple #[.string ⟨(s.sent D d.data.toList).y.toArray⟩, .int .i64 0]) ∧ Up W w') := fun W => by
    have := refEncrypt_ok D.n D.t D.q D.b key ⟨(textsL 2 s.cl).toArray⟩ d W I.lkey (size_text hs.lc (by omega)) hd g O.q1 O.q2 O.good O.fit (by rw [I.ekey]; exact O.sec) (okL_texts s.cl D.n 2 D.t hs.lc hs.bc (by omega))
    rw [I.ekey, list_back] at this
    exact this
  obtain ⟨CL, hCL⟩ : ∃ c : ByteArray, c = ⟨(textsL 2 s.cl).toArray⟩ := ⟨_, rfl⟩
  obtain ⟨SV, hSV⟩ : ∃ c : ByteArray, c = ⟨(textsL 2 s.sv).toArray⟩ := ⟨_, rfl⟩
  obtain ⟨SY, hSY⟩ : ∃ c : ByteArray, c = ⟨s.y.toArray⟩ := ⟨_, rfl⟩
  have HCL : Hid _ := hCL
  have HSV : Hid _ := hSV
  have HSY : Hid _ := hSY
  rw [← hCL] at HEn
  rw [← hCL, ← hSV, ← hSY]
  generalize (⟨(s.sent D d.data.toList).y.toArray⟩ : ByteArray) = NY at HEn ⊢
  generalize layX D.n net j = LX at HLo
  generalize (⟨(textsL 2 (maskI D.n D.t d.data.toList)).toArray⟩ : ByteArray) = MK at HMk
  clear hCL hSV hSY hle hLX hLs
  generalize D.N = NN at HB hk5 hN hj
  clear hs
  obtain ⟨W, hW⟩ : ∃ W, W = ((w.alloc (.cells #[.string CL, .string SV, .string SY, .int .i64 e0] 164)).alloc (.cells #[.string ⟨#[]⟩, .string ⟨#[]⟩, .string ⟨#[]⟩, .int .i64 0] 164)).alloc (.cells #[.int .i64 D.n, .int .i64 D.t, .int .i64 D.q, .int .i64 D.b] 23) := ⟨_, rfl⟩
  have huW : Up w W := by rw [hW]; exact (((Up.refl _).alloc _).alloc _).alloc _
  have hRW := h.up huW
  have HRW : Hid _ := hRW
  have KS : Hid (W.cell? ⟨w.heap.size, 0, none⟩ = some (.string CL) ∧ W.cell? ⟨w.heap.size, 1, none⟩ = some (.string SV) ∧ W.cell? ⟨w.heap.size, 2, none⟩ = some (.string SY) ∧ W.cell? ⟨w.heap.size, 3, none⟩ = some (.int .i64 e0)) := by
    show _ ∧ _ ∧ _ ∧ _
    rw [hW]
    exact ⟨by simp [go_sem], by simp [go_sem], by simp [go_sem], by simp [go_sem]⟩
  have KR : Hid (W.cell? ⟨w.heap.size + 1, 0, none⟩ = some (.string ⟨#[]⟩) ∧ W.cell? ⟨w.heap.size + 1, 1, none⟩ = some (.string ⟨#[]⟩) ∧ W.cell? ⟨w.heap.size + 1, 2, none⟩ = some (.string ⟨#[]⟩) ∧ W.cell? ⟨w.heap.size + 1, 3, none⟩ = some (.int .i64 0)) := by
    show _ ∧ _ ∧ _ ∧ _
    rw [hW]
    exact ⟨by simp [go_sem], by simp [go_sem], by simp [go_sem], by simp [go_sem]⟩
  have KP : Hid (W.cell? ⟨w.heap.size + 2, 0, none⟩ = some (.int .i64 (D.n : Int)) ∧ W.cell? ⟨w.heap.size + 2, 1, none⟩ = some (.int .i64 (D.t : Int)) ∧ W.cell? ⟨w.heap.size + 2, 2, none⟩ = some (.int .i64 D.q) ∧ W.cell? ⟨w.heap.size + 2, 3, none⟩ = some (.int .i64 D.b)) := by
    show _ ∧ _ ∧ _ ∧ _
    rw [hW]
    exact ⟨by simp [go_sem], by simp [go_sem], by simp [go_sem], by simp [go_sem]⟩
  have KZ : Hid (∀ b o, w.heap.size ≤ b → b < w.heap.size + 3 → W.frozen? ⟨b, o, none⟩ = false) := show ∀ b o, w.heap.size ≤ b → b < w.heap.size + 3 → W.frozen? ⟨b, o, none⟩ = false from fun b o h1 h2 => by
    rw [hW]
    rcases (show b = w.heap.size ∨ b = w.heap.size + 1 ∨ b = w.heap.size + 2 by omega) with rfl | rfl | rfl <;> simp [go_sem]
  have hsW : W.heap.size = w.heap.size + 3 := by rw [hW]; simp
  have hRn : R < w.heap.size := h.lt
  have r0 := h.c0
  have r1 := h.c1
  have r2 := h.c2
  have r3 := h.c3
  have s4 := hRW.c4
  clear h hRW
  subst hW
  go_enter Tryz.func115, Tryz.ntmps115
  go_wp2_with fail
  refine Calls.mono (HB.out _) ?_
  rintro e w' ⟨rfl, rfl⟩
  generalize ((w.alloc (.cells #[.string CL, .string SV, .string SY, .int .i64 e0] 164)).alloc (.cells #[.string ⟨#[]⟩, .string ⟨#[]⟩, .string ⟨#[]⟩, .int .i64 0] 164)).alloc (.cells #[.int .i64 D.n, .int .i64 D.t, .int .i64 D.q, .int .i64 D.b] 23) = W at huW HRW KS KR KP KZ hsW s4 ⊢
  obtain ⟨p0, p1, p2, p3⟩ := KP.out
  go_wp2_with fail
  go_region_held3 (fun w' => w'.cell? ⟨w.heap.size + 2, 0, none⟩ = some (.int .i64 (D.n : Int)) ∧ w'.cell? ⟨w.heap.size + 2, 1, none⟩ = some (.int .i64 (D.t : Int)) ∧ w'.cell? ⟨w.heap.size + 2, 2, none⟩ = some (.int .i64 D.q) ∧ w'.cell? ⟨w.heap.size + 2, 3, none⟩ = some (.int .i64 D.b) ∧ w'.cell? ⟨R, 4, none⟩ = some (.string net))
    (first | go_keep | exact keepC5 hu1 (by assumption))
    ((first | (go_at_call 141; refine Calls.mono (HLo.out _) ?_; rintro e w1 ⟨rfl, hu1⟩)))
  have hu01 := Up.trans (Up.drew (Up.refl _)) hu1
  clear p0 p1 p2 p3 s4 hu1
  obtain ⟨p0, p1, p2, p3⟩ := keepC4 hu01 KP.out
  go_wp2_with fail
  refine Calls.mono (HMk.out _) ?_
  rintro e w2 ⟨rfl, hu2⟩
  have hu02 := Up.trans hu01 hu2
  clear p0 p1 p2 p3 hu01 hu2
  obtain ⟨p0, p1, p2, p3⟩ := keepC4 hu02 KP.out
  have hR2 := HRW.out.up hu02
  obtain ⟨a0, a1, a2, a3⟩ := keepC4 hu02 KS.out
  have s5 := hR2.c5
  clear hR2 a1 a2 a3
  go_wp2_with fail
  go_region_held3 (fun w' => w'.cell? ⟨w.heap.size + 2, 0, none⟩ = some (.int .i64 (D.n : Int)) ∧ w'.cell? ⟨w.heap.size + 2, 1, none⟩ = some (.int .i64 (D.t : Int)) ∧ w'.cell? ⟨w.heap.size + 2, 2, none⟩ = some (.int .i64 D.q) ∧ w'.cell? ⟨w.heap.size + 2, 3, none⟩ = some (.int .i64 D.b) ∧ w'.cell? ⟨R, 5, none⟩ = some (.string key) ∧ w'.cell? ⟨w.heap.size, 0, none⟩ = some (.string CL))
    (first | go_keep | exact keepC6 hu3 (by assumption))
    ((first | (go_at_call 143; refine Calls.mono (HEn.out _) ?_; rintro e w3 ⟨rfl, hu3⟩)))
  have hu03 := Up.trans hu02 (Up.trans (Up.drew (Up.refl _)) hu3)
  have HV0 := Up.trans huW hu03
  clear p0 p1 p2 p3 s5 a0 hu3 hu02
  obtain ⟨a0, a1, a2, a3⟩ := keepC4 hu03 KS.out
  obtain ⟨b0, b1, b2, b3⟩ := keepC4 hu03 KR.out
  have az : ∀ o, w3.frozen? ⟨w.heap.size, o, none⟩ = false := fun o => frozen_upN hu03 KS.out.1 (KZ.out _ _ (Nat.le_refl _) (by omega))
  have bz : ∀ o, w3.frozen? ⟨w.heap.size + 1, o, none⟩ = false := fun o => frozen_upN hu03 KR.out.1 (KZ.out _ _ (by omega) (by omega))
  go_wp2_with fail
  refine bodyPost_ret (v := .agg #[.string CL, .string SV, .string NY, .int .i64 0]) (by simp [results, Tryz.results115, go_sem, b0, b1, b2, b3]) rfl ⟨rfl, ?_⟩
  iterate 6 (refine Below.setCell ?_ (by dsimp only; omega) _)
  exact HV0

set_option maxHeartbeats 4000000 in
theorem stepped_2 (R : Nat) (D : Dat) (j : Nat) (s : St) (d : ByteArray) (e0 : Int) (net key turn input : ByteArray) (vd : Value) (w : World) (hd : d.size ≤ maxLen) (O : D.Ok) (I : D.Is net key turn) (hs : s.Ok D 2) (hj : j < D.N) (h : RC w R D.n D.t D.q D.b net key turn input vd) :
    Calls Tryz.prog 115 #[.pointer (some ⟨R, 0, none⟩), .agg #[.string ⟨(textsL 2 s.cl).toArray⟩, .string ⟨(textsL 2 s.sv).toArray⟩, .string ⟨s.y.toArray⟩, .int .i64 e0], .int .i64 (4 * (j : Int) + 2), .string d] w fun e w' => e = .returned (.agg #[.string ⟨(textsL 2 (s.opened D).cl).toArray⟩, .string ⟨(textsL 2 s.sv).toArray⟩, .string ⟨s.y.toArray⟩, .int .i64 0]) ∧ Up w w' := by
  have g := O.nt
  have hhf := g.half
  have ht := g.t3
  have ht2 := g.ht
  have h256 : ((256 ^ 2 : Nat) : Int) = 65536 := by decide
  have hN := O.N1
  have HB : Hid (∀ W, Calls Tryz.prog 97 #[.string net, .int .i64 1] W fun e w' => e = .returned (.int .i64 (D.N : Nat)) ∧ w' = W) := fun W => by
    have := Byte_calls net 1 W I.lnet (by omega)
    rw [I.enet] at this
    exact this
  have hle : 2 + j * sizN D.n + sizN D.n ≤ net.size := by
    have h5 := ((netB_iff _ _ _).1 O.net).2.2.2.2.1
    have h6 : net.data.toList.length = net.size := by simp
    have h7 := Nat.mul_le_mul_right (sizN D.n) (show j + 1 ≤ byteL D.net 1 from hj)
    rw [Nat.succ_mul] at h7
    rw [← I.enet, h6] at h5
    rw [I.enet] at h5
    omega
  have HLo : Hid (∀ W, Calls Tryz.prog 141 #[.agg #[.int .i64 D.n, .int .i64 D.t, .int .i64 D.q, .int .i64 D.b], .string net, .int .i64 (j : Nat)] W fun e w' => e = .returned (.string (layX D.n net j)) ∧ Up W w') := fun W => LayerOf_calls D.n j D.t D.q D.b net W I.lnet g.hn (by omega) hle
  have hLX : (layX D.n net j).data.toList = layOf D.n D.net j := by rw [layX_list D.n net j hle, I.enet]
  have hLs : (layX D.n net j).size ≤ maxLen := by unfold layX; simp; have := I.lnet; omega
  have HMk : Hid (∀ W, Calls Tryz.prog 142 #[.agg #[.int .i64 D.n, .int .i64 D.t, .int .i64 D.q, .int .i64 D.b], .string d] W fun e w' => e = .returned (.string ⟨(textsL 2 (maskI D.n D.t d.data.toList)).toArray⟩) ∧ Up W w') := fun W => refMask_calls D.n D.t D.q D.b d W hd (by omega) (by omega) ht2
  obtain ⟨kk, hkk⟩ : ∃ k : Int, k = (4 * (j : Int) + 2) := ⟨_, rfl⟩
  have hkb : 0 ≤ kk := by omega
  have hkc : kk ≤ 100 := by omega
  have hk0 : kk / 4 = (j : Int) := by omega
  have hk1 : kk % 4 = 2 := by omega
  have hk2 : kk.tdiv 4 = (j : Int) := by rw [Int.tdiv_eq_ediv_of_nonneg (by omega)]; exact hk0
  have hk3 : kk.tmod 4 = 2 := by rw [Int.tmod_eq_emod_of_nonneg (by omega)]; exact hk1
  have hk4 : IntKind.i64.wrap (j : Int) = (j : Int) := IntWalk.i64_in _ (by omega)
  have hk5 : ¬ (D.N : Int) ≤ (j : Int) := by omega
  rw [← hkk]
  clear hkk
  have hyl : s.y.length ≤ 1000 := by have := ((ctB_iff _ _ _ _).1 (hs.ct (Or.inr rfl))).1; omega
  have HDe : Hid (∀ W, Calls Tryz.prog 144 #[.agg #[.int .i64 D.n, .int .i64 D.t, .int .i64 D.q, .int .i64 D.b], .string key, .string ⟨s.y.toArray⟩] W fun e w' => e = .returned (.tuple #[.string ⟨(textsL 2 (s.opened D).cl).toArray⟩, .int .i64 0]) ∧ Up W w') := fun W => by
    have := refDecrypt_ok D.n D.t D.q D.b key ⟨s.y.toArray⟩ W I.lkey (size_list hyl) g O.q1 O.q2 O.good (by rw [I.ekey]; exact O.sec) (hs.ct (Or.inr rfl))
    rw [I.ekey, list_back] at this
    exact this
  obtain ⟨CL, hCL⟩ : ∃ c : ByteArray, c = ⟨(textsL 2 s.cl).toArray⟩ := ⟨_, rfl⟩
  obtain ⟨SV, hSV⟩ : ∃ c : ByteArray, c = ⟨(textsL 2 s.sv).toArray⟩ := ⟨_, rfl⟩
  obtain ⟨SY, hSY⟩ : ∃ c : ByteArray, c = ⟨s.y.toArray⟩ := ⟨_, rfl⟩
  have HCL : Hid _ := hCL
  have HSV : Hid _ := hSV
  have HSY : Hid _ := hSY
  rw [← hSY] at HDe
  rw [← hCL, ← hSV, ← hSY]
  generalize (⟨(textsL 2 (s.opened D).cl).toArray⟩ : ByteArray) = NC at HDe ⊢
  generalize layX D.n net j = LX at HLo
  generalize (⟨(textsL 2 (maskI D.n D.t d.data.toList)).toArray⟩ : ByteArray) = MK at HMk
  clear hCL hSV hSY hle hLX hLs hyl
  generalize D.N = NN at HB hk5 hN hj
  clear hs
  obtain ⟨W, hW⟩ : ∃ W, W = ((w.alloc (.cells #[.string CL, .string SV, .string SY, .int .i64 e0] 164)).alloc (.cells #[.string ⟨#[]⟩, .string ⟨#[]⟩, .string ⟨#[]⟩, .int .i64 0] 164)).alloc (.cells #[.int .i64 D.n, .int .i64 D.t, .int .i64 D.q, .int .i64 D.b] 23) := ⟨_, rfl⟩
  have huW : Up w W := by rw [hW]; exact (((Up.refl _).alloc _).alloc _).alloc _
  have hRW := h.up huW
  have HRW : Hid _ := hRW
  have KS : Hid (W.cell? ⟨w.heap.size, 0, none⟩ = some (.string CL) ∧ W.cell? ⟨w.heap.size, 1, none⟩ = some (.string SV) ∧ W.cell? ⟨w.heap.size, 2, none⟩ = some (.string SY) ∧ W.cell? ⟨w.heap.size, 3, none⟩ = some (.int .i64 e0)) := by
    show _ ∧ _ ∧ _ ∧ _
    rw [hW]
    exact ⟨by simp [go_sem], by simp [go_sem], by simp [go_sem], by simp [go_sem]⟩
  have KR : Hid (W.cell? ⟨w.heap.size + 1, 0, none⟩ = some (.string ⟨#[]⟩) ∧ W.cell? ⟨w.heap.size + 1, 1, none⟩ = some (.string ⟨#[]⟩) ∧ W.cell? ⟨w.heap.size + 1, 2, none⟩ = some (.string ⟨#[]⟩) ∧ W.cell? ⟨w.heap.size + 1, 3, none⟩ = some (.int .i64 0)) := by
    show _ ∧ _ ∧ _ ∧ _
    rw [hW]
    exact ⟨by simp [go_sem], by simp [go_sem], by simp [go_sem], by simp [go_sem]⟩
  have KP : Hid (W.cell? ⟨w.heap.size + 2, 0, none⟩ = some (.int .i64 (D.n : Int)) ∧ W.cell? ⟨w.heap.size + 2, 1, none⟩ = some (.int .i64 (D.t : Int)) ∧ W.cell? ⟨w.heap.size + 2, 2, none⟩ = some (.int .i64 D.q) ∧ W.cell? ⟨w.heap.size + 2, 3, none⟩ = some (.int .i64 D.b)) := by
    show _ ∧ _ ∧ _ ∧ _
    rw [hW]
    exact ⟨by simp [go_sem], by simp [go_sem], by simp [go_sem], by simp [go_sem]⟩
  have KZ : Hid (∀ b o, w.heap.size ≤ b → b < w.heap.size + 3 → W.frozen? ⟨b, o, none⟩ = false) := show ∀ b o, w.heap.size ≤ b → b < w.heap.size + 3 → W.frozen? ⟨b, o, none⟩ = false from fun b o h1 h2 => by
    rw [hW]
    rcases (show b = w.heap.size ∨ b = w.heap.size + 1 ∨ b = w.heap.size + 2 by omega) with rfl | rfl | rfl <;> simp [go_sem]
  have hsW : W.heap.size = w.heap.size + 3 := by rw [hW]; simp
  have hRn : R < w.heap.size := h.lt
  have r0 := h.c0
  have r1 := h.c1
  have r2 := h.c2
  have r3 := h.c3
  have s4 := hRW.c4
  clear h hRW
  subst hW
  go_enter Tryz.func115, Tryz.ntmps115
  go_wp2_with fail
  refine Calls.mono (HB.out _) ?_
  rintro e w' ⟨rfl, rfl⟩
  generalize ((w.alloc (.cells #[.string CL, .string SV, .string SY, .int .i64 e0] 164)).alloc (.cells #[.string ⟨#[]⟩, .string ⟨#[]⟩, .string ⟨#[]⟩, .int .i64 0] 164)).alloc (.cells #[.int .i64 D.n, .int .i64 D.t, .int .i64 D.q, .int .i64 D.b] 23) = W at huW HRW KS KR KP KZ hsW s4 ⊢
  obtain ⟨p0, p1, p2, p3⟩ := KP.out
  go_wp2_with fail
  go_region_held3 (fun w' => w'.cell? ⟨w.heap.size + 2, 0, none⟩ = some (.int .i64 (D.n : Int)) ∧ w'.cell? ⟨w.heap.size + 2, 1, none⟩ = some (.int .i64 (D.t : Int)) ∧ w'.cell? ⟨w.heap.size + 2, 2, none⟩ = some (.int .i64 D.q) ∧ w'.cell? ⟨w.heap.size + 2, 3, none⟩ = some (.int .i64 D.b) ∧ w'.cell? ⟨R, 4, none⟩ = some (.string net))
    (first | go_keep | exact keepC5 hu1 (by assumption))
    ((first | (go_at_call 141; refine Calls.mono (HLo.out _) ?_; rintro e w1 ⟨rfl, hu1⟩)))
  have hu01 := Up.trans (Up.drew (Up.refl _)) hu1
  clear p0 p1 p2 p3 s4 hu1
  obtain ⟨p0, p1, p2, p3⟩ := keepC4 hu01 KP.out
  go_wp2_with fail
  refine Calls.mono (HMk.out _) ?_
  rintro e w2 ⟨rfl, hu2⟩
  have hu02 := Up.trans hu01 hu2
  clear p0 p1 p2 p3 hu01 hu2
  obtain ⟨p0, p1, p2, p3⟩ := keepC4 hu02 KP.out
  have hR2 := HRW.out.up hu02
  obtain ⟨a0, a1, a2, a3⟩ := keepC4 hu02 KS.out
  have s5 := hR2.c5
  clear hR2 a0 a1 a3
  go_wp2_with fail
  go_region_held3 (fun w' => w'.cell? ⟨w.heap.size + 2, 0, none⟩ = some (.int .i64 (D.n : Int)) ∧ w'.cell? ⟨w.heap.size + 2, 1, none⟩ = some (.int .i64 (D.t : Int)) ∧ w'.cell? ⟨w.heap.size + 2, 2, none⟩ = some (.int .i64 D.q) ∧ w'.cell? ⟨w.heap.size + 2, 3, none⟩ = some (.int .i64 D.b) ∧ w'.cell? ⟨R, 5, none⟩ = some (.string key) ∧ w'.cell? ⟨w.heap.size, 2, none⟩ = some (.string SY))
    (first | go_keep | exact keepC6 hu3 (by assumption))
    ((first | (go_at_call 144; refine Calls.mono (HDe.out _) ?_; rintro e w3 ⟨rfl, hu3⟩)))
  have hu03 := Up.trans hu02 (Up.trans (Up.drew (Up.refl _)) hu3)
  have HV0 := Up.trans huW hu03
  clear p0 p1 p2 p3 s5 a2 hu3 hu02
  obtain ⟨a0, a1, a2, a3⟩ := keepC4 hu03 KS.out
  obtain ⟨b0, b1, b2, b3⟩ := keepC4 hu03 KR.out
  have az : ∀ o, w3.frozen? ⟨w.heap.size, o, none⟩ = false := fun o => frozen_upN hu03 KS.out.1 (KZ.out _ _ (Nat.le_refl _) (by omega))
  have bz : ∀ o, w3.frozen? ⟨w.heap.size + 1, o, none⟩ = false := fun o => frozen_upN hu03 KR.out.1 (KZ.out _ _ (by omega) (by omega))
  go_wp2_with fail
  refine bodyPost_ret (v := .agg #[.string NC, .string SV, .string SY, .int .i64 0]) (by simp [results, Tryz.results115, go_sem, b0, b1, b2, b3]) rfl ⟨rfl, ?_⟩
  iterate 6 (refine Below.setCell ?_ (by dsimp only; omega) _)
  exact HV0

set_option maxHeartbeats 4000000 in
theorem stepped_end (R : Nat) (D : Dat) (kk : Int) (s : St) (d : ByteArray) (e0 : Int) (net key turn input : ByteArray) (vd : Value) (w : World) (O : D.Ok) (I : D.Is net key turn) (hkb : 0 ≤ kk) (hkc : kk ≤ 100) (hk5 : (D.N : Int) ≤ kk / 4) (h : RC w R D.n D.t D.q D.b net key turn input vd) :
    Calls Tryz.prog 115 #[.pointer (some ⟨R, 0, none⟩), .agg #[.string ⟨(textsL 2 s.cl).toArray⟩, .string ⟨(textsL 2 s.sv).toArray⟩, .string ⟨s.y.toArray⟩, .int .i64 e0], .int .i64 kk, .string d] w fun e w' => e = .returned (.agg #[.string ⟨(textsL 2 s.cl).toArray⟩, .string ⟨(textsL 2 s.sv).toArray⟩, .string ⟨s.y.toArray⟩, .int .i64 5]) ∧ Up w w' := by
  have g := O.nt
  have hhf := g.half
  have ht := g.t3
  have ht2 := g.ht
  have h256 : ((256 ^ 2 : Nat) : Int) = 65536 := by decide
  have hN := O.N1
  have HB : Hid (∀ W, Calls Tryz.prog 97 #[.string net, .int .i64 1] W fun e w' => e = .returned (.int .i64 (D.N : Nat)) ∧ w' = W) := fun W => by
    have := Byte_calls net 1 W I.lnet (by omega)
    rw [I.enet] at this
    exact this
  obtain ⟨jj, hjj⟩ : ∃ j, j = kk / 4 := ⟨_, rfl⟩
  have hk0 : kk / 4 = jj := hjj.symm
  have hk2 : kk.tdiv 4 = jj := by rw [Int.tdiv_eq_ediv_of_nonneg (by omega)]; exact hk0
  rw [hk0] at hk5
  have hk4 : IntKind.i64.wrap jj = jj := IntWalk.i64_in _ (by omega)
  clear hjj
  obtain ⟨CL, hCL⟩ : ∃ c : ByteArray, c = ⟨(textsL 2 s.cl).toArray⟩ := ⟨_, rfl⟩
  obtain ⟨SV, hSV⟩ : ∃ c : ByteArray, c = ⟨(textsL 2 s.sv).toArray⟩ := ⟨_, rfl⟩
  obtain ⟨SY, hSY⟩ : ∃ c : ByteArray, c = ⟨s.y.toArray⟩ := ⟨_, rfl⟩
  have HCL : Hid _ := hCL
  have HSV : Hid _ := hSV
  have HSY : Hid _ := hSY
  rw [← hCL, ← hSV, ← hSY]
  clear hCL hSV hSY
  generalize D.N = NN at HB hk5 hN
  obtain ⟨W, hW⟩ : ∃ W, W = ((w.alloc (.cells #[.string CL, .string SV, .string SY, .int .i64 e0] 164)).alloc (.cells #[.string ⟨#[]⟩, .string ⟨#[]⟩, .string ⟨#[]⟩, .int .i64 0] 164)).alloc (.cells #[.int .i64 D.n, .int .i64 D.t, .int .i64 D.q, .int .i64 D.b] 23) := ⟨_, rfl⟩
  have huW : Up w W := by rw [hW]; exact (((Up.refl _).alloc _).alloc _).alloc _
  have hRW := h.up huW
  have HRW : Hid _ := hRW
  have KS : Hid (W.cell? ⟨w.heap.size, 0, none⟩ = some (.string CL) ∧ W.cell? ⟨w.heap.size, 1, none⟩ = some (.string SV) ∧ W.cell? ⟨w.heap.size, 2, none⟩ = some (.string SY) ∧ W.cell? ⟨w.heap.size, 3, none⟩ = some (.int .i64 e0)) := by
    show _ ∧ _ ∧ _ ∧ _
    rw [hW]
    exact ⟨by simp [go_sem], by simp [go_sem], by simp [go_sem], by simp [go_sem]⟩
  have KR : Hid (W.cell? ⟨w.heap.size + 1, 0, none⟩ = some (.string ⟨#[]⟩) ∧ W.cell? ⟨w.heap.size + 1, 1, none⟩ = some (.string ⟨#[]⟩) ∧ W.cell? ⟨w.heap.size + 1, 2, none⟩ = some (.string ⟨#[]⟩) ∧ W.cell? ⟨w.heap.size + 1, 3, none⟩ = some (.int .i64 0)) := by
    show _ ∧ _ ∧ _ ∧ _
    rw [hW]
    exact ⟨by simp [go_sem], by simp [go_sem], by simp [go_sem], by simp [go_sem]⟩
  have KP : Hid (W.cell? ⟨w.heap.size + 2, 0, none⟩ = some (.int .i64 (D.n : Int)) ∧ W.cell? ⟨w.heap.size + 2, 1, none⟩ = some (.int .i64 (D.t : Int)) ∧ W.cell? ⟨w.heap.size + 2, 2, none⟩ = some (.int .i64 D.q) ∧ W.cell? ⟨w.heap.size + 2, 3, none⟩ = some (.int .i64 D.b)) := by
    show _ ∧ _ ∧ _ ∧ _
    rw [hW]
    exact ⟨by simp [go_sem], by simp [go_sem], by simp [go_sem], by simp [go_sem]⟩
  have KZ : Hid (∀ b o, w.heap.size ≤ b → b < w.heap.size + 3 → W.frozen? ⟨b, o, none⟩ = false) := show ∀ b o, w.heap.size ≤ b → b < w.heap.size + 3 → W.frozen? ⟨b, o, none⟩ = false from fun b o h1 h2 => by
    rw [hW]
    rcases (show b = w.heap.size ∨ b = w.heap.size + 1 ∨ b = w.heap.size + 2 by omega) with rfl | rfl | rfl <;> simp [go_sem]
  have hsW : W.heap.size = w.heap.size + 3 := by rw [hW]; simp
  have hRn : R < w.heap.size := h.lt
  have r0 := h.c0
  have r1 := h.c1
  have r2 := h.c2
  have r3 := h.c3
  have s4 := hRW.c4
  clear h hRW
  subst hW
  go_enter Tryz.func115, Tryz.ntmps115
  go_wp2_with fail
  refine Calls.mono (HB.out _) ?_
  rintro e w' ⟨rfl, rfl⟩
  generalize ((w.alloc (.cells #[.string CL, .string SV, .string SY, .int .i64 e0] 164)).alloc (.cells #[.string ⟨#[]⟩, .string ⟨#[]⟩, .string ⟨#[]⟩, .int .i64 0] 164)).alloc (.cells #[.int .i64 D.n, .int .i64 D.t, .int .i64 D.q, .int .i64 D.b] 23) = W at huW HRW KS KR KP KZ hsW s4 ⊢
  obtain ⟨p0, p1, p2, p3⟩ := KP.out
  obtain ⟨a0, a1, a2, a3⟩ := KS.out
  obtain ⟨b0, b1, b2, b3⟩ := KR.out
  have az : ∀ o, W.frozen? ⟨w.heap.size, o, none⟩ = false := fun o => KZ.out _ _ (Nat.le_refl _) (by omega)
  have bz : ∀ o, W.frozen? ⟨w.heap.size + 1, o, none⟩ = false := fun o => KZ.out _ _ (by omega) (by omega)
  have HV0 := huW
  clear p0 p1 p2 p3 s4
  go_wp2_with fail
  refine bodyPost_ret (v := .agg #[.string CL, .string SV, .string SY, .int .i64 5]) (by simp [results, Tryz.results115, go_sem, b0, b1, b2, b3]) rfl ⟨rfl, ?_⟩
  iterate 5 (refine Below.setCell ?_ (by dsimp only; omega) _)
  exact HV0

end Go.Proofs.YtcjhgbljhpflfabGreat

namespace Go.Proofs.YtcjhgbljhpflfabGreat
open Go.RowKit
set_option linter.unusedVariables false
set_option maxRecDepth 100000

set_option maxHeartbeats 4000000 in
theorem stepped_1y (R : Nat) (D : Dat) (j : Nat) (s : St) (d : ByteArray) (e0 : Int) (net key turn input : ByteArray) (vd : Value) (w : World) (hd : d.size ≤ maxLen) (O : D.Ok) (I : D.Is net key turn) (hs : s.Ok D 1) (hj : j < D.N) (hz : (linS1 D j s d.data.toList).2 = 0) (h : RC w R D.n D.t D.q D.b net key turn input vd) :
    Calls Tryz.prog 115 #[.pointer (some ⟨R, 0, none⟩), .agg #[.string ⟨(textsL 2 s.cl).toArray⟩, .string ⟨(textsL 2 s.sv).toArray⟩, .string ⟨s.y.toArray⟩, .int .i64 e0], .int .i64 (4 * (j : Int) + 1), .string d] w fun e w' => e = .returned (.agg #[.string ⟨(textsL 2 s.cl).toArray⟩, .string ⟨(textsL 2 (maskI D.n D.t d.data.toList)).toArray⟩, .string ⟨(linS1 D j s d.data.toList).1.toArray⟩, .int .i64 0]) ∧ Up w w' := by
  have g := O.nt
  have hhf := g.half
  have ht := g.t3
  have ht2 := g.ht
  have h256 : ((256 ^ 2 : Nat) : Int) = 65536 := by decide
  have hN := O.N1
  have HB : Hid (∀ W, Calls Tryz.prog 97 #[.string net, .int .i64 1] W fun e w' => e = .returned (.int .i64 (D.N : Nat)) ∧ w' = W) := fun W => by
    have := Byte_calls net 1 W I.lnet (by omega)
    rw [I.enet] at this
    exact this
  have hle : 2 + j * sizN D.n + sizN D.n ≤ net.size := by
    have h5 := ((netB_iff _ _ _).1 O.net).2.2.2.2.1
    have h6 : net.data.toList.length = net.size := by simp
    have h7 := Nat.mul_le_mul_right (sizN D.n) (show j + 1 ≤ byteL D.net 1 from hj)
    rw [Nat.succ_mul] at h7
    rw [← I.enet, h6] at h5
    rw [I.enet] at h5
    omega
  have HLo : Hid (∀ W, Calls Tryz.prog 141 #[.agg #[.int .i64 D.n, .int .i64 D.t, .int .i64 D.q, .int .i64 D.b], .string net, .int .i64 (j : Nat)] W fun e w' => e = .returned (.string (layX D.n net j)) ∧ Up W w') := fun W => LayerOf_calls D.n j D.t D.q D.b net W I.lnet g.hn (by omega) hle
  have hLX : (layX D.n net j).data.toList = layOf D.n D.net j := by rw [layX_list D.n net j hle, I.enet]
  have hLs : (layX D.n net j).size ≤ maxLen := by unfold layX; simp; have := I.lnet; omega
  have HMk : Hid (∀ W, Calls Tryz.prog 142 #[.agg #[.int .i64 D.n, .int .i64 D.t, .int .i64 D.q, .int .i64 D.b], .string d] W fun e w' => e = .returned (.string ⟨(textsL 2 (maskI D.n D.t d.data.toList)).toArray⟩) ∧ Up W w') := fun W => refMask_calls D.n D.t D.q D.b d W hd (by omega) (by omega) ht2
  obtain ⟨kk, hkk⟩ : ∃ k : Int, k = (4 * (j : Int) + 1) := ⟨_, rfl⟩
  have hkb : 0 ≤ kk := by omega
  have hkc : kk ≤ 100 := by omega
  have hk0 : kk / 4 = (j : Int) := by omega
  have hk1 : kk % 4 = 1 := by omega
  have hk2 : kk.tdiv 4 = (j : Int) := by rw [Int.tdiv_eq_ediv_of_nonneg (by omega)]; exact hk0
  have hk3 : kk.tmod 4 = 1 := by rw [Int.tmod_eq_emod_of_nonneg (by omega)]; exact hk1
  have hk4 : IntKind.i64.wrap (j : Int) = (j : Int) := IntWalk.i64_in _ (by omega)
  have hk5 : ¬ (D.N : Int) ≤ (j : Int) := by omega
  rw [← hkk]
  clear hkk
  have hyl : s.y.length ≤ 1000 := by have := ((ctB_iff _ _ _ _).1 (hs.ct (Or.inl rfl))).1; omega
  have HLi : Hid (∀ W, Calls Tryz.prog 9 #[.agg #[.int .i64 D.n, .int .i64 D.t, .int .i64 D.q, .int .i64 D.b], .string (layX D.n net j), .string ⟨s.y.toArray⟩, .string ⟨(textsL 2 s.sv).toArray⟩, .string ⟨(textsL 2 (maskI D.n D.t d.data.toList)).toArray⟩, .string turn] W fun e w' => e = .returned (.tuple #[.string ⟨(linS1 D j s d.data.toList).1.toArray⟩, .int .i64 0]) ∧ Up W w') := fun W => by
    have := refLinear_ok D.n D.t D.L D.q D.b (layX D.n net j) ⟨s.y.toArray⟩ ⟨(textsL 2 s.sv).toArray⟩ ⟨(textsL 2 (maskI D.n D.t d.data.toList)).toArray⟩ turn W hLs (size_list hyl) (size_text hs.ls (by omega)) (size_text (maskI_length _ _ _) (by omega)) I.lturn g O.q1 O.q2 O.b1 O.b2 O.dig O.good (by rw [hLX]; exact O.lay j hj) (hs.ct (Or.inl rfl)) (okL_texts s.sv D.n 2 D.t hs.ls hs.bs (by omega)) (okL_texts _ D.n 2 D.t (maskI_length _ _ _) (maskI_lt _ _ _ (by omega)) (by omega)) (by rw [I.eturn]; exact O.turn)
    rw [hLX, I.eturn, list_back, list_back, list_back] at this
    rw [← hz]
    exact this
  obtain ⟨CL, hCL⟩ : ∃ c : ByteArray, c = ⟨(textsL 2 s.cl).toArray⟩ := ⟨_, rfl⟩
  obtain ⟨SV, hSV⟩ : ∃ c : ByteArray, c = ⟨(textsL 2 s.sv).toArray⟩ := ⟨_, rfl⟩
  obtain ⟨SY, hSY⟩ : ∃ c : ByteArray, c = ⟨s.y.toArray⟩ := ⟨_, rfl⟩
  have HCL : Hid _ := hCL
  have HSV : Hid _ := hSV
  have HSY : Hid _ := hSY
  rw [← hSV, ← hSY] at HLi
  rw [← hCL, ← hSV, ← hSY]
  generalize (⟨(linS1 D j s d.data.toList).1.toArray⟩ : ByteArray) = NY at HLi ⊢
  generalize layX D.n net j = LX at HLo HLi
  obtain ⟨MK, hMK⟩ : ∃ c : ByteArray, c = ⟨(textsL 2 (maskI D.n D.t d.data.toList)).toArray⟩ := ⟨_, rfl⟩
  rw [← hMK] at HMk HLi
  try rw [← hMK]
  clear hMK hyl hz
  clear hCL hSV hSY hle
  generalize D.N = NN at HB hk5 hN hj
  clear hs
  clear hLX hLs
  obtain ⟨W, hW⟩ : ∃ W, W = ((w.alloc (.cells #[.string CL, .string SV, .string SY, .int .i64 e0] 164)).alloc (.cells #[.string ⟨#[]⟩, .string ⟨#[]⟩, .string ⟨#[]⟩, .int .i64 0] 164)).alloc (.cells #[.int .i64 D.n, .int .i64 D.t, .int .i64 D.q, .int .i64 D.b] 23) := ⟨_, rfl⟩
  have huW : Up w W := by rw [hW]; exact (((Up.refl _).alloc _).alloc _).alloc _
  have hRW := h.up huW
  have HRW : Hid _ := hRW
  have KS : Hid (W.cell? ⟨w.heap.size, 0, none⟩ = some (.string CL) ∧ W.cell? ⟨w.heap.size, 1, none⟩ = some (.string SV) ∧ W.cell? ⟨w.heap.size, 2, none⟩ = some (.string SY) ∧ W.cell? ⟨w.heap.size, 3, none⟩ = some (.int .i64 e0)) := by
    show _ ∧ _ ∧ _ ∧ _
    rw [hW]
    exact ⟨by simp [go_sem], by simp [go_sem], by simp [go_sem], by simp [go_sem]⟩
  have KR : Hid (W.cell? ⟨w.heap.size + 1, 0, none⟩ = some (.string ⟨#[]⟩) ∧ W.cell? ⟨w.heap.size + 1, 1, none⟩ = some (.string ⟨#[]⟩) ∧ W.cell? ⟨w.heap.size + 1, 2, none⟩ = some (.string ⟨#[]⟩) ∧ W.cell? ⟨w.heap.size + 1, 3, none⟩ = some (.int .i64 0)) := by
    show _ ∧ _ ∧ _ ∧ _
    rw [hW]
    exact ⟨by simp [go_sem], by simp [go_sem], by simp [go_sem], by simp [go_sem]⟩
  have KP : Hid (W.cell? ⟨w.heap.size + 2, 0, none⟩ = some (.int .i64 (D.n : Int)) ∧ W.cell? ⟨w.heap.size + 2, 1, none⟩ = some (.int .i64 (D.t : Int)) ∧ W.cell? ⟨w.heap.size + 2, 2, none⟩ = some (.int .i64 D.q) ∧ W.cell? ⟨w.heap.size + 2, 3, none⟩ = some (.int .i64 D.b)) := by
    show _ ∧ _ ∧ _ ∧ _
    rw [hW]
    exact ⟨by simp [go_sem], by simp [go_sem], by simp [go_sem], by simp [go_sem]⟩
  have KZ : Hid (∀ b o, w.heap.size ≤ b → b < w.heap.size + 3 → W.frozen? ⟨b, o, none⟩ = false) := show ∀ b o, w.heap.size ≤ b → b < w.heap.size + 3 → W.frozen? ⟨b, o, none⟩ = false from fun b o h1 h2 => by
    rw [hW]
    rcases (show b = w.heap.size ∨ b = w.heap.size + 1 ∨ b = w.heap.size + 2 by omega) with rfl | rfl | rfl <;> simp [go_sem]
  have hsW : W.heap.size = w.heap.size + 3 := by rw [hW]; simp
  have hRn : R < w.heap.size := h.lt
  have r0 := h.c0
  have r1 := h.c1
  have r2 := h.c2
  have r3 := h.c3
  have s4 := hRW.c4
  clear h hRW
  subst hW
  go_enter Tryz.func115, Tryz.ntmps115
  go_wp2_with fail
  refine Calls.mono (HB.out _) ?_
  rintro e w' ⟨rfl, rfl⟩
  generalize ((w.alloc (.cells #[.string CL, .string SV, .string SY, .int .i64 e0] 164)).alloc (.cells #[.string ⟨#[]⟩, .string ⟨#[]⟩, .string ⟨#[]⟩, .int .i64 0] 164)).alloc (.cells #[.int .i64 D.n, .int .i64 D.t, .int .i64 D.q, .int .i64 D.b] 23) = W at huW HRW KS KR KP KZ hsW s4 ⊢
  obtain ⟨p0, p1, p2, p3⟩ := KP.out
  go_wp2_with fail
  go_region_held3 (fun w' => w'.cell? ⟨w.heap.size + 2, 0, none⟩ = some (.int .i64 (D.n : Int)) ∧ w'.cell? ⟨w.heap.size + 2, 1, none⟩ = some (.int .i64 (D.t : Int)) ∧ w'.cell? ⟨w.heap.size + 2, 2, none⟩ = some (.int .i64 D.q) ∧ w'.cell? ⟨w.heap.size + 2, 3, none⟩ = some (.int .i64 D.b) ∧ w'.cell? ⟨R, 4, none⟩ = some (.string net))
    (first | go_keep | exact keepC5 hu1 (by assumption))
    ((first | (go_at_call 141; refine Calls.mono (HLo.out _) ?_; rintro e w1 ⟨rfl, hu1⟩)))
  have hu01 := Up.trans (Up.drew (Up.refl _)) hu1
  clear p0 p1 p2 p3 s4 hu1
  obtain ⟨p0, p1, p2, p3⟩ := keepC4 hu01 KP.out
  go_wp2_with fail
  refine Calls.mono (HMk.out _) ?_
  rintro e w2 ⟨rfl, hu2⟩
  have hu02 := Up.trans hu01 hu2
  clear p0 p1 p2 p3 hu01 hu2
  obtain ⟨p0, p1, p2, p3⟩ := keepC4 hu02 KP.out
  have hR2 := HRW.out.up hu02
  obtain ⟨a0, a1, a2, a3⟩ := keepC4 hu02 KS.out
  have s6 := hR2.c6
  clear hR2 a0 a3
  go_wp2_with fail
  go_region_held3 (fun w' => w'.cell? ⟨w.heap.size + 2, 0, none⟩ = some (.int .i64 (D.n : Int)) ∧ w'.cell? ⟨w.heap.size + 2, 1, none⟩ = some (.int .i64 (D.t : Int)) ∧ w'.cell? ⟨w.heap.size + 2, 2, none⟩ = some (.int .i64 D.q) ∧ w'.cell? ⟨w.heap.size + 2, 3, none⟩ = some (.int .i64 D.b) ∧ w'.cell? ⟨w.heap.size, 2, none⟩ = some (.string SY) ∧ w'.cell? ⟨w.heap.size, 1, none⟩ = some (.string SV) ∧ w'.cell? ⟨R, 6, none⟩ = some (.string turn))
    (first | go_keep | exact keepC7 hu3 (by assumption))
    ((first | (go_at_call 9; refine Calls.mono (HLi.out _) ?_; rintro e w3 ⟨rfl, hu3⟩)))
  have hu03 := Up.trans hu02 (Up.trans (Up.drew (Up.refl _)) hu3)
  have HV0 := Up.trans huW hu03
  clear p0 p1 p2 p3 s6 a1 a2 hu3 hu02
  obtain ⟨a0, a1, a2, a3⟩ := keepC4 hu03 KS.out
  obtain ⟨b0, b1, b2, b3⟩ := keepC4 hu03 KR.out
  have az : ∀ o, w3.frozen? ⟨w.heap.size, o, none⟩ = false := fun o => frozen_upN hu03 KS.out.1 (KZ.out _ _ (Nat.le_refl _) (by omega))
  have bz : ∀ o, w3.frozen? ⟨w.heap.size + 1, o, none⟩ = false := fun o => frozen_upN hu03 KR.out.1 (KZ.out _ _ (by omega) (by omega))
  go_wp2_with fail
  refine bodyPost_ret (v := .agg #[.string CL, .string MK, .string NY, .int .i64 0]) (by simp [results, Tryz.results115, go_sem, b0, b1, b2, b3]) rfl ⟨rfl, ?_⟩
  iterate 7 (refine Below.setCell ?_ (by dsimp only; omega) _)
  exact HV0

set_option maxHeartbeats 4000000 in
theorem stepped_1n (R : Nat) (D : Dat) (j : Nat) (s : St) (d : ByteArray) (e0 : Int) (net key turn input : ByteArray) (vd : Value) (w : World) (hd : d.size ≤ maxLen) (O : D.Ok) (I : D.Is net key turn) (hs : s.Ok D 1) (hj : j < D.N) (hz : (linS1 D j s d.data.toList).2 = 4) (h : RC w R D.n D.t D.q D.b net key turn input vd) :
    Calls Tryz.prog 115 #[.pointer (some ⟨R, 0, none⟩), .agg #[.string ⟨(textsL 2 s.cl).toArray⟩, .string ⟨(textsL 2 s.sv).toArray⟩, .string ⟨s.y.toArray⟩, .int .i64 e0], .int .i64 (4 * (j : Int) + 1), .string d] w fun e w' => e = .returned (.agg #[.string ⟨(textsL 2 s.cl).toArray⟩, .string ⟨(textsL 2 s.sv).toArray⟩, .string ⟨s.y.toArray⟩, .int .i64 4]) ∧ Up w w' := by
  have g := O.nt
  have hhf := g.half
  have ht := g.t3
  have ht2 := g.ht
  have h256 : ((256 ^ 2 : Nat) : Int) = 65536 := by decide
  have hN := O.N1
  have HB : Hid (∀ W, Calls Tryz.prog 97 #[.string net, .int .i64 1] W fun e w' => e = .returned (.int .i64 (D.N : Nat)) ∧ w' = W) := fun W => by
    have := Byte_calls net 1 W I.lnet (by omega)
    rw [I.enet] at this
    exact this
  have hle : 2 + j * sizN D.n + sizN D.n ≤ net.size := by
    have h5 := ((netB_iff _ _ _).1 O.net).2.2.2.2.1
    have h6 : net.data.toList.length = net.size := by simp
    have h7 := Nat.mul_le_mul_right (sizN D.n) (show j + 1 ≤ byteL D.net 1 from hj)
    rw [Nat.succ_mul] at h7
    rw [← I.enet, h6] at h5
    rw [I.enet] at h5
    omega
  have HLo : Hid (∀ W, Calls Tryz.prog 141 #[.agg #[.int .i64 D.n, .int .i64 D.t, .int .i64 D.q, .int .i64 D.b], .string net, .int .i64 (j : Nat)] W fun e w' => e = .returned (.string (layX D.n net j)) ∧ Up W w') := fun W => LayerOf_calls D.n j D.t D.q D.b net W I.lnet g.hn (by omega) hle
  have hLX : (layX D.n net j).data.toList = layOf D.n D.net j := by rw [layX_list D.n net j hle, I.enet]
  have hLs : (layX D.n net j).size ≤ maxLen := by unfold layX; simp; have := I.lnet; omega
  have HMk : Hid (∀ W, Calls Tryz.prog 142 #[.agg #[.int .i64 D.n, .int .i64 D.t, .int .i64 D.q, .int .i64 D.b], .string d] W fun e w' => e = .returned (.string ⟨(textsL 2 (maskI D.n D.t d.data.toList)).toArray⟩) ∧ Up W w') := fun W => refMask_calls D.n D.t D.q D.b d W hd (by omega) (by omega) ht2
  obtain ⟨kk, hkk⟩ : ∃ k : Int, k = (4 * (j : Int) + 1) := ⟨_, rfl⟩
  have hkb : 0 ≤ kk := by omega
  have hkc : kk ≤ 100 := by omega
  have hk0 : kk / 4 = (j : Int) := by omega
  have hk1 : kk % 4 = 1 := by omega
  have hk2 : kk.tdiv 4 = (j : Int) := by rw [Int.tdiv_eq_ediv_of_nonneg (by omega)]; exact hk0
  have hk3 : kk.tmod 4 = 1 := by rw [Int.tmod_eq_emod_of_nonneg (by omega)]; exact hk1
  have hk4 : IntKind.i64.wrap (j : Int) = (j : Int) := IntWalk.i64_in _ (by omega)
  have hk5 : ¬ (D.N : Int) ≤ (j : Int) := by omega
  rw [← hkk]
  clear hkk
  have hyl : s.y.length ≤ 1000 := by have := ((ctB_iff _ _ _ _).1 (hs.ct (Or.inl rfl))).1; omega
  have HLi : Hid (∀ W, Calls Tryz.prog 9 #[.agg #[.int .i64 D.n, .int .i64 D.t, .int .i64 D.q, .int .i64 D.b], .string (layX D.n net j), .string ⟨s.y.toArray⟩, .string ⟨(textsL 2 s.sv).toArray⟩, .string ⟨(textsL 2 (maskI D.n D.t d.data.toList)).toArray⟩, .string turn] W fun e w' => e = .returned (.tuple #[.string ⟨(linS1 D j s d.data.toList).1.toArray⟩, .int .i64 4]) ∧ Up W w') := fun W => by
    have := refLinear_ok D.n D.t D.L D.q D.b (layX D.n net j) ⟨s.y.toArray⟩ ⟨(textsL 2 s.sv).toArray⟩ ⟨(textsL 2 (maskI D.n D.t d.data.toList)).toArray⟩ turn W hLs (size_list hyl) (size_text hs.ls (by omega)) (size_text (maskI_length _ _ _) (by omega)) I.lturn g O.q1 O.q2 O.b1 O.b2 O.dig O.good (by rw [hLX]; exact O.lay j hj) (hs.ct (Or.inl rfl)) (okL_texts s.sv D.n 2 D.t hs.ls hs.bs (by omega)) (okL_texts _ D.n 2 D.t (maskI_length _ _ _) (maskI_lt _ _ _ (by omega)) (by omega)) (by rw [I.eturn]; exact O.turn)
    rw [hLX, I.eturn, list_back, list_back, list_back] at this
    rw [← hz]
    exact this
  obtain ⟨CL, hCL⟩ : ∃ c : ByteArray, c = ⟨(textsL 2 s.cl).toArray⟩ := ⟨_, rfl⟩
  obtain ⟨SV, hSV⟩ : ∃ c : ByteArray, c = ⟨(textsL 2 s.sv).toArray⟩ := ⟨_, rfl⟩
  obtain ⟨SY, hSY⟩ : ∃ c : ByteArray, c = ⟨s.y.toArray⟩ := ⟨_, rfl⟩
  have HCL : Hid _ := hCL
  have HSV : Hid _ := hSV
  have HSY : Hid _ := hSY
  rw [← hSV, ← hSY] at HLi
  rw [← hCL, ← hSV, ← hSY]
  generalize (⟨(linS1 D j s d.data.toList).1.toArray⟩ : ByteArray) = NY at HLi ⊢
  generalize layX D.n net j = LX at HLo HLi
  obtain ⟨MK, hMK⟩ : ∃ c : ByteArray, c = ⟨(textsL 2 (maskI D.n D.t d.data.toList)).toArray⟩ := ⟨_, rfl⟩
  rw [← hMK] at HMk HLi
  try rw [← hMK]
  clear hMK hyl hz
  clear hCL hSV hSY hle
  generalize D.N = NN at HB hk5 hN hj
  clear hs
  clear hLX hLs
  obtain ⟨W, hW⟩ : ∃ W, W = ((w.alloc (.cells #[.string CL, .string SV, .string SY, .int .i64 e0] 164)).alloc (.cells #[.string ⟨#[]⟩, .string ⟨#[]⟩, .string ⟨#[]⟩, .int .i64 0] 164)).alloc (.cells #[.int .i64 D.n, .int .i64 D.t, .int .i64 D.q, .int .i64 D.b] 23) := ⟨_, rfl⟩
  have huW : Up w W := by rw [hW]; exact (((Up.refl _).alloc _).alloc _).alloc _
  have hRW := h.up huW
  have HRW : Hid _ := hRW
  have KS : Hid (W.cell? ⟨w.heap.size, 0, none⟩ = some (.string CL) ∧ W.cell? ⟨w.heap.size, 1, none⟩ = some (.string SV) ∧ W.cell? ⟨w.heap.size, 2, none⟩ = some (.string SY) ∧ W.cell? ⟨w.heap.size, 3, none⟩ = some (.int .i64 e0)) := by
    show _ ∧ _ ∧ _ ∧ _
    rw [hW]
    exact ⟨by simp [go_sem], by simp [go_sem], by simp [go_sem], by simp [go_sem]⟩
  have KR : Hid (W.cell? ⟨w.heap.size + 1, 0, none⟩ = some (.string ⟨#[]⟩) ∧ W.cell? ⟨w.heap.size + 1, 1, none⟩ = some (.string ⟨#[]⟩) ∧ W.cell? ⟨w.heap.size + 1, 2, none⟩ = some (.string ⟨#[]⟩) ∧ W.cell? ⟨w.heap.size + 1, 3, none⟩ = some (.int .i64 0)) := by
    show _ ∧ _ ∧ _ ∧ _
    rw [hW]
    exact ⟨by simp [go_sem], by simp [go_sem], by simp [go_sem], by simp [go_sem]⟩
  have KP : Hid (W.cell? ⟨w.heap.size + 2, 0, none⟩ = some (.int .i64 (D.n : Int)) ∧ W.cell? ⟨w.heap.size + 2, 1, none⟩ = some (.int .i64 (D.t : Int)) ∧ W.cell? ⟨w.heap.size + 2, 2, none⟩ = some (.int .i64 D.q) ∧ W.cell? ⟨w.heap.size + 2, 3, none⟩ = some (.int .i64 D.b)) := by
    show _ ∧ _ ∧ _ ∧ _
    rw [hW]
    exact ⟨by simp [go_sem], by simp [go_sem], by simp [go_sem], by simp [go_sem]⟩
  have KZ : Hid (∀ b o, w.heap.size ≤ b → b < w.heap.size + 3 → W.frozen? ⟨b, o, none⟩ = false) := show ∀ b o, w.heap.size ≤ b → b < w.heap.size + 3 → W.frozen? ⟨b, o, none⟩ = false from fun b o h1 h2 => by
    rw [hW]
    rcases (show b = w.heap.size ∨ b = w.heap.size + 1 ∨ b = w.heap.size + 2 by omega) with rfl | rfl | rfl <;> simp [go_sem]
  have hsW : W.heap.size = w.heap.size + 3 := by rw [hW]; simp
  have hRn : R < w.heap.size := h.lt
  have r0 := h.c0
  have r1 := h.c1
  have r2 := h.c2
  have r3 := h.c3
  have s4 := hRW.c4
  clear h hRW
  subst hW
  go_enter Tryz.func115, Tryz.ntmps115
  go_wp2_with fail
  refine Calls.mono (HB.out _) ?_
  rintro e w' ⟨rfl, rfl⟩
  generalize ((w.alloc (.cells #[.string CL, .string SV, .string SY, .int .i64 e0] 164)).alloc (.cells #[.string ⟨#[]⟩, .string ⟨#[]⟩, .string ⟨#[]⟩, .int .i64 0] 164)).alloc (.cells #[.int .i64 D.n, .int .i64 D.t, .int .i64 D.q, .int .i64 D.b] 23) = W at huW HRW KS KR KP KZ hsW s4 ⊢
  obtain ⟨p0, p1, p2, p3⟩ := KP.out
  go_wp2_with fail
  go_region_held3 (fun w' => w'.cell? ⟨w.heap.size + 2, 0, none⟩ = some (.int .i64 (D.n : Int)) ∧ w'.cell? ⟨w.heap.size + 2, 1, none⟩ = some (.int .i64 (D.t : Int)) ∧ w'.cell? ⟨w.heap.size + 2, 2, none⟩ = some (.int .i64 D.q) ∧ w'.cell? ⟨w.heap.size + 2, 3, none⟩ = some (.int .i64 D.b) ∧ w'.cell? ⟨R, 4, none⟩ = some (.string net))
    (first | go_keep | exact keepC5 hu1 (by assumption))
    ((first | (go_at_call 141; refine Calls.mono (HLo.out _) ?_; rintro e w1 ⟨rfl, hu1⟩)))
  have hu01 := Up.trans (Up.drew (Up.refl _)) hu1
  clear p0 p1 p2 p3 s4 hu1
  obtain ⟨p0, p1, p2, p3⟩ := keepC4 hu01 KP.out
  go_wp2_with fail
  refine Calls.mono (HMk.out _) ?_
  rintro e w2 ⟨rfl, hu2⟩
  have hu02 := Up.trans hu01 hu2
  clear p0 p1 p2 p3 hu01 hu2
  obtain ⟨p0, p1, p2, p3⟩ := keepC4 hu02 KP.out
  have hR2 := HRW.out.up hu02
  obtain ⟨a0, a1, a2, a3⟩ := keepC4 hu02 KS.out
  have s6 := hR2.c6
  clear hR2 a0 a3
  go_wp2_with fail
  go_region_held3 (fun w' => w'.cell? ⟨w.heap.size + 2, 0, none⟩ = some (.int .i64 (D.n : Int)) ∧ w'.cell? ⟨w.heap.size + 2, 1, none⟩ = some (.int .i64 (D.t : Int)) ∧ w'.cell? ⟨w.heap.size + 2, 2, none⟩ = some (.int .i64 D.q) ∧ w'.cell? ⟨w.heap.size + 2, 3, none⟩ = some (.int .i64 D.b) ∧ w'.cell? ⟨w.heap.size, 2, none⟩ = some (.string SY) ∧ w'.cell? ⟨w.heap.size, 1, none⟩ = some (.string SV) ∧ w'.cell? ⟨R, 6, none⟩ = some (.string turn))
    (first | go_keep | exact keepC7 hu3 (by assumption))
    ((first | (go_at_call 9; refine Calls.mono (HLi.out _) ?_; rintro e w3 ⟨rfl, hu3⟩)))
  have hu03 := Up.trans hu02 (Up.trans (Up.drew (Up.refl _)) hu3)
  have HV0 := Up.trans huW hu03
  clear p0 p1 p2 p3 s6 a1 a2 hu3 hu02
  obtain ⟨a0, a1, a2, a3⟩ := keepC4 hu03 KS.out
  obtain ⟨b0, b1, b2, b3⟩ := keepC4 hu03 KR.out
  have az : ∀ o, w3.frozen? ⟨w.heap.size, o, none⟩ = false := fun o => frozen_upN hu03 KS.out.1 (KZ.out _ _ (Nat.le_refl _) (by omega))
  have bz : ∀ o, w3.frozen? ⟨w.heap.size + 1, o, none⟩ = false := fun o => frozen_upN hu03 KR.out.1 (KZ.out _ _ (by omega) (by omega))
  go_wp2_with fail
  refine bodyPost_ret (v := .agg #[.string CL, .string SV, .string SY, .int .i64 4]) (by simp [results, Tryz.results115, go_sem, b0, b1, b2, b3]) rfl ⟨rfl, ?_⟩
  iterate 5 (refine Below.setCell ?_ (by dsimp only; omega) _)
  exact HV0

set_option maxHeartbeats 4000000 in
theorem stepped_3 (R : Nat) (D : Dat) (j : Nat) (s : St) (d : ByteArray) (e0 : Int) (net key turn input : ByteArray) (vd : Value) (w : World) (hd : d.size ≤ maxLen) (O : D.Ok) (I : D.Is net key turn) (hs : s.Ok D 3) (hj : j < D.N) (h : RC w R D.n D.t D.q D.b net key turn input vd) :
    Calls Tryz.prog 115 #[.pointer (some ⟨R, 0, none⟩), .agg #[.string ⟨(textsL 2 s.cl).toArray⟩, .string ⟨(textsL 2 s.sv).toArray⟩, .string ⟨s.y.toArray⟩, .int .i64 e0], .int .i64 (4 * (j : Int) + 3), .string d] w fun e w' => e = .returned (.agg #[.string ⟨(textsL 2 (s.bent D j d.data.toList).cl).toArray⟩, .string ⟨(textsL 2 (maskI D.n D.t d.data.toList)).toArray⟩, .string ⟨s.y.toArray⟩, .int .i64 0]) ∧ Up w w' := by
  have g := O.nt
  have hhf := g.half
  have ht := g.t3
  have ht2 := g.ht
  have h256 : ((256 ^ 2 : Nat) : Int) = 65536 := by decide
  have hN := O.N1
  have HB : Hid (∀ W, Calls Tryz.prog 97 #[.string net, .int .i64 1] W fun e w' => e = .returned (.int .i64 (D.N : Nat)) ∧ w' = W) := fun W => by
    have := Byte_calls net 1 W I.lnet (by omega)
    rw [I.enet] at this
    exact this
  have hle : 2 + j * sizN D.n + sizN D.n ≤ net.size := by
    have h5 := ((netB_iff _ _ _).1 O.net).2.2.2.2.1
    have h6 : net.data.toList.length = net.size := by simp
    have h7 := Nat.mul_le_mul_right (sizN D.n) (show j + 1 ≤ byteL D.net 1 from hj)
    rw [Nat.succ_mul] at h7
    rw [← I.enet, h6] at h5
    rw [I.enet] at h5
    omega
  have HLo : Hid (∀ W, Calls Tryz.prog 141 #[.agg #[.int .i64 D.n, .int .i64 D.t, .int .i64 D.q, .int .i64 D.b], .string net, .int .i64 (j : Nat)] W fun e w' => e = .returned (.string (layX D.n net j)) ∧ Up W w') := fun W => LayerOf_calls D.n j D.t D.q D.b net W I.lnet g.hn (by omega) hle
  have hLX : (layX D.n net j).data.toList = layOf D.n D.net j := by rw [layX_list D.n net j hle, I.enet]
  have hLs : (layX D.n net j).size ≤ maxLen := by unfold layX; simp; have := I.lnet; omega
  have HMk : Hid (∀ W, Calls Tryz.prog 142 #[.agg #[.int .i64 D.n, .int .i64 D.t, .int .i64 D.q, .int .i64 D.b], .string d] W fun e w' => e = .returned (.string ⟨(textsL 2 (maskI D.n D.t d.data.toList)).toArray⟩) ∧ Up W w') := fun W => refMask_calls D.n D.t D.q D.b d W hd (by omega) (by omega) ht2
  obtain ⟨kk, hkk⟩ : ∃ k : Int, k = (4 * (j : Int) + 3) := ⟨_, rfl⟩
  have hkb : 0 ≤ kk := by omega
  have hkc : kk ≤ 100 := by omega
  have hk0 : kk / 4 = (j : Int) := by omega
  have hk1 : kk % 4 = 3 := by omega
  have hk2 : kk.tdiv 4 = (j : Int) := by rw [Int.tdiv_eq_ediv_of_nonneg (by omega)]; exact hk0
  have hk3 : kk.tmod 4 = 3 := by rw [Int.tmod_eq_emod_of_nonneg (by omega)]; exact hk1
  have hk4 : IntKind.i64.wrap (j : Int) = (j : Int) := IntWalk.i64_in _ (by omega)
  have hk5 : ¬ (D.N : Int) ≤ (j : Int) := by omega
  rw [← hkk]
  clear hkk
  have HBe : Hid (∀ W, Calls Tryz.prog 145 #[.agg #[.int .i64 D.n, .int .i64 D.t, .int .i64 D.q, .int .i64 D.b], .string (layX D.n net j), .string ⟨(textsL 2 s.cl).toArray⟩, .string ⟨(textsL 2 s.sv).toArray⟩, .string ⟨(textsL 2 (maskI D.n D.t d.data.toList)).toArray⟩] W fun e w' => e = .returned (.tuple #[.string ⟨(textsL 2 (s.bent D j d.data.toList).cl).toArray⟩, .int .i64 0]) ∧ Up W w') := fun W => by
    have := refBend_ok D.n D.t D.q D.b (layX D.n net j) ⟨(textsL 2 s.cl).toArray⟩ ⟨(textsL 2 s.sv).toArray⟩ ⟨(textsL 2 (maskI D.n D.t d.data.toList)).toArray⟩ W hLs (size_text hs.lc (by omega)) (size_text hs.ls (by omega)) (size_text (maskI_length _ _ _) (by omega)) g O.good (by rw [hLX]; exact O.lay j hj) (okL_texts s.cl D.n 2 D.t hs.lc hs.bc (by omega)) (okL_texts s.sv D.n 2 D.t hs.ls hs.bs (by omega)) (okL_texts _ D.n 2 D.t (maskI_length _ _ _) (maskI_lt _ _ _ (by omega)) (by omega))
    rw [hLX, list_back, list_back, list_back, bendL, nums_texts s.cl D.n 2 D.t hs.lc hs.bc (by omega), nums_texts s.sv D.n 2 D.t hs.ls hs.bs (by omega), nums_texts _ D.n 2 D.t (maskI_length _ _ _) (maskI_lt _ _ _ (by omega)) (by omega)] at this
    exact this
  obtain ⟨CL, hCL⟩ : ∃ c : ByteArray, c = ⟨(textsL 2 s.cl).toArray⟩ := ⟨_, rfl⟩
  obtain ⟨SV, hSV⟩ : ∃ c : ByteArray, c = ⟨(textsL 2 s.sv).toArray⟩ := ⟨_, rfl⟩
  obtain ⟨SY, hSY⟩ : ∃ c : ByteArray, c = ⟨s.y.toArray⟩ := ⟨_, rfl⟩
  have HCL : Hid _ := hCL
  have HSV : Hid _ := hSV
  have HSY : Hid _ := hSY
  rw [← hCL, ← hSV] at HBe
  rw [← hCL, ← hSV, ← hSY]
  generalize (⟨(textsL 2 (s.bent D j d.data.toList).cl).toArray⟩ : ByteArray) = NC at HBe ⊢
  generalize layX D.n net j = LX at HLo HBe
  obtain ⟨MK, hMK⟩ : ∃ c : ByteArray, c = ⟨(textsL 2 (maskI D.n D.t d.data.toList)).toArray⟩ := ⟨_, rfl⟩
  rw [← hMK] at HMk HBe
  rw [← hMK]
  clear hMK
  clear hCL hSV hSY hle
  generalize D.N = NN at HB hk5 hN hj
  clear hs
  clear hLX hLs
  obtain ⟨W, hW⟩ : ∃ W, W = ((w.alloc (.cells #[.string CL, .string SV, .string SY, .int .i64 e0] 164)).alloc (.cells #[.string ⟨#[]⟩, .string ⟨#[]⟩, .string ⟨#[]⟩, .int .i64 0] 164)).alloc (.cells #[.int .i64 D.n, .int .i64 D.t, .int .i64 D.q, .int .i64 D.b] 23) := ⟨_, rfl⟩
  have huW : Up w W := by rw [hW]; exact (((Up.refl _).alloc _).alloc _).alloc _
  have hRW := h.up huW
  have HRW : Hid _ := hRW
  have KS : Hid (W.cell? ⟨w.heap.size, 0, none⟩ = some (.string CL) ∧ W.cell? ⟨w.heap.size, 1, none⟩ = some (.string SV) ∧ W.cell? ⟨w.heap.size, 2, none⟩ = some (.string SY) ∧ W.cell? ⟨w.heap.size, 3, none⟩ = some (.int .i64 e0)) := by
    show _ ∧ _ ∧ _ ∧ _
    rw [hW]
    exact ⟨by simp [go_sem], by simp [go_sem], by simp [go_sem], by simp [go_sem]⟩
  have KR : Hid (W.cell? ⟨w.heap.size + 1, 0, none⟩ = some (.string ⟨#[]⟩) ∧ W.cell? ⟨w.heap.size + 1, 1, none⟩ = some (.string ⟨#[]⟩) ∧ W.cell? ⟨w.heap.size + 1, 2, none⟩ = some (.string ⟨#[]⟩) ∧ W.cell? ⟨w.heap.size + 1, 3, none⟩ = some (.int .i64 0)) := by
    show _ ∧ _ ∧ _ ∧ _
    rw [hW]
    exact ⟨by simp [go_sem], by simp [go_sem], by simp [go_sem], by simp [go_sem]⟩
  have KP : Hid (W.cell? ⟨w.heap.size + 2, 0, none⟩ = some (.int .i64 (D.n : Int)) ∧ W.cell? ⟨w.heap.size + 2, 1, none⟩ = some (.int .i64 (D.t : Int)) ∧ W.cell? ⟨w.heap.size + 2, 2, none⟩ = some (.int .i64 D.q) ∧ W.cell? ⟨w.heap.size + 2, 3, none⟩ = some (.int .i64 D.b)) := by
    show _ ∧ _ ∧ _ ∧ _
    rw [hW]
    exact ⟨by simp [go_sem], by simp [go_sem], by simp [go_sem], by simp [go_sem]⟩
  have KZ : Hid (∀ b o, w.heap.size ≤ b → b < w.heap.size + 3 → W.frozen? ⟨b, o, none⟩ = false) := show ∀ b o, w.heap.size ≤ b → b < w.heap.size + 3 → W.frozen? ⟨b, o, none⟩ = false from fun b o h1 h2 => by
    rw [hW]
    rcases (show b = w.heap.size ∨ b = w.heap.size + 1 ∨ b = w.heap.size + 2 by omega) with rfl | rfl | rfl <;> simp [go_sem]
  have hsW : W.heap.size = w.heap.size + 3 := by rw [hW]; simp
  have hRn : R < w.heap.size := h.lt
  have r0 := h.c0
  have r1 := h.c1
  have r2 := h.c2
  have r3 := h.c3
  have s4 := hRW.c4
  clear h hRW
  subst hW
  go_enter Tryz.func115, Tryz.ntmps115
  go_wp2_with fail
  refine Calls.mono (HB.out _) ?_
  rintro e w' ⟨rfl, rfl⟩
  generalize ((w.alloc (.cells #[.string CL, .string SV, .string SY, .int .i64 e0] 164)).alloc (.cells #[.string ⟨#[]⟩, .string ⟨#[]⟩, .string ⟨#[]⟩, .int .i64 0] 164)).alloc (.cells #[.int .i64 D.n, .int .i64 D.t, .int .i64 D.q, .int .i64 D.b] 23) = W at huW HRW KS KR KP KZ hsW s4 ⊢
  obtain ⟨p0, p1, p2, p3⟩ := KP.out
  go_wp2_with fail
  go_region_held3 (fun w' => w'.cell? ⟨w.heap.size + 2, 0, none⟩ = some (.int .i64 (D.n : Int)) ∧ w'.cell? ⟨w.heap.size + 2, 1, none⟩ = some (.int .i64 (D.t : Int)) ∧ w'.cell? ⟨w.heap.size + 2, 2, none⟩ = some (.int .i64 D.q) ∧ w'.cell? ⟨w.heap.size + 2, 3, none⟩ = some (.int .i64 D.b) ∧ w'.cell? ⟨R, 4, none⟩ = some (.string net))
    (first | go_keep | exact keepC5 hu1 (by assumption))
    ((first | (go_at_call 141; refine Calls.mono (HLo.out _) ?_; rintro e w1 ⟨rfl, hu1⟩)))
  have hu01 := Up.trans (Up.drew (Up.refl _)) hu1
  clear p0 p1 p2 p3 s4 hu1
  obtain ⟨p0, p1, p2, p3⟩ := keepC4 hu01 KP.out
  go_wp2_with fail
  refine Calls.mono (HMk.out _) ?_
  rintro e w2 ⟨rfl, hu2⟩
  have hu02 := Up.trans hu01 hu2
  clear p0 p1 p2 p3 hu01 hu2
  obtain ⟨p0, p1, p2, p3⟩ := keepC4 hu02 KP.out
  have hR2 := HRW.out.up hu02
  obtain ⟨a0, a1, a2, a3⟩ := keepC4 hu02 KS.out
  clear hR2 a2 a3
  go_wp2_with fail
  refine Calls.mono (HBe.out _) ?_
  rintro e w3 ⟨rfl, hu3⟩
  have hu03 := Up.trans hu02 hu3
  have HV0 := Up.trans huW hu03
  clear p0 p1 p2 p3 a0 a1 hu3 hu02
  obtain ⟨a0, a1, a2, a3⟩ := keepC4 hu03 KS.out
  obtain ⟨b0, b1, b2, b3⟩ := keepC4 hu03 KR.out
  have az : ∀ o, w3.frozen? ⟨w.heap.size, o, none⟩ = false := fun o => frozen_upN hu03 KS.out.1 (KZ.out _ _ (Nat.le_refl _) (by omega))
  have bz : ∀ o, w3.frozen? ⟨w.heap.size + 1, o, none⟩ = false := fun o => frozen_upN hu03 KR.out.1 (KZ.out _ _ (by omega) (by omega))
  go_wp2_with fail
  refine bodyPost_ret (v := .agg #[.string NC, .string MK, .string SY, .int .i64 0]) (by simp [results, Tryz.results115, go_sem, b0, b1, b2, b3]) rfl ⟨rfl, ?_⟩
  iterate 7 (refine Below.setCell ?_ (by dsimp only; omega) _)
  exact HV0

end Go.Proofs.YtcjhgbljhpflfabGreat
