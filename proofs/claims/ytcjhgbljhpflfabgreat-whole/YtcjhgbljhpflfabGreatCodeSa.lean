/-
  The program's session in memory; what may change, and what not.
  Walks: the steps of the program's session.
-/
import Derived.Test.YtcjhgbljhpflfabGreatCodeBn
import Derived.Test.YtcjhgbljhpflfabGreatCodeNu
import Derived.Test.YtcjhgbljhpflfabGreatCodeLe
import Derived.Test.YtcjhgbljhpflfabGreatCodeL
import Derived.Test.YtcjhgbljhpflfabGreatWalksNa
namespace Go.Proofs.YtcjhgbljhpflfabGreat
open Go.RowKit
set_option linter.unusedVariables false
set_option maxRecDepth 100000

/-- all blocks but those of S are as they were -/
structure Mut (S : Nat → Prop) (w w' : World) : Prop where
  os : w'.os = w.os
  tape : w'.tape = w.tape
  output : w'.output = w.output
  size : w.heap.size ≤ w'.heap.size
  block : ∀ k, k < w.heap.size → ¬ S k → w'.heap[k]? = w.heap[k]?

theorem Mut.refl (S : Nat → Prop) (w : World) : Mut S w w := ⟨rfl, rfl, rfl, Nat.le_refl _, fun _ _ _ => rfl⟩

theorem Mut.trans {S : Nat → Prop} {a b c : World} (h : Mut S a b) (k : Mut S b c) : Mut S a c :=
  ⟨k.os.trans h.os, k.tape.trans h.tape, k.output.trans h.output, Nat.le_trans h.size k.size, fun i hi hn => (k.block i (Nat.lt_of_lt_of_le hi h.size) hn).trans (h.block i hi hn)⟩

theorem Up.mut {S : Nat → Prop} {w w' : World} (h : Up w w') : Mut S w w' := ⟨h.os, h.tape, h.output, h.size, fun k hk _ => h.block k hk⟩

theorem Mut.mono {S S' : Nat → Prop} {w w' : World} (h : Mut S w w') (hs : ∀ k, S k → S' k) : Mut S' w w' := ⟨h.os, h.tape, h.output, h.size, fun k hk hn => h.block k hk (fun c => hn (hs k c))⟩

theorem Mut.setCell {S : Nat → Prop} {a w : World} (h : Mut S a w) {p : Addr} (hp : S p.block) (u : Value) : Mut S a (w.setCell p u) :=
  h.trans ⟨rfl, rfl, rfl, by simp [World.setCell], fun k hk hn => Below.heap_setCell _ _ _ _ (fun c => hn (by rw [c]; exact hp))⟩

theorem Mut.cell {S : Nat → Prop} {w w' : World} (h : Mut S w w') {p : Addr} {v : Value} (hc : w.cell? p = some v) (hn : ¬ S p.block) : w'.cell? p = some v :=
  (World.cell?_of_block (h.block p.block (World.block_lt_of_cell? w p hc) hn)).trans hc

theorem Mut.frozen {S : Nat → Prop} {w w' : World} (h : Mut S w w') {p : Addr} {b : Bool} (hc : w.frozen? p = b) (hl : p.block < w.heap.size) (hn : ¬ S p.block) : w'.frozen? p = b :=
  (World.frozen?_of_block (h.block p.block hl hn)).trans hc

theorem Mut.below {S : Nat → Prop} {w w' : World} {B : Nat} (h : Mut S w w') (hB : B ≤ w.heap.size) (hs : ∀ k, S k → B ≤ k) : Below B w w' :=
  ⟨h.os, h.tape, h.output, h.size, fun k hk => h.block k (by omega) (fun c => by have := hs k c; omega)⟩

theorem IsI.mut {S : Nat → Prop} {w w' : World} {g : Nat} {xs : List Int} (h : IsI w g xs) (m : Mut S w w') (hn : ¬ S g) : IsI w' g xs :=
  ⟨Nat.lt_of_lt_of_le h.1 m.size, fun i hi => m.cell (h.2 i hi) hn⟩

theorem RowsAt.mut {S : Nat → Prop} {w w' : World} {H k n : Nat} {gs caps : Nat → Nat} {P : Nat → List Int} (h : RowsAt w H k n gs caps P) (m : Mut S w w') (hn : ¬ S H) (hg : ∀ i, i < k → ¬ S (gs i)) : RowsAt w' H k n gs caps P :=
  ⟨Nat.lt_of_lt_of_le h.lt m.size, fun i hi => m.cell (h.head i hi) hn, fun i hi => (h.row i hi).mut m (hg i hi)⟩

/-- a block that begins with four numbers, the third above all that the lists hold, the second above all that short ones hold -/
structure Tag (w : World) (X : Nat) (t : Nat) (q : Int) : Prop where
  c0 : ∃ x, w.cell? ⟨X, 0, none⟩ = some (.int .i64 x)
  c1 : w.cell? ⟨X, 1, none⟩ = some (.int .i64 (t : Int))
  c2 : w.cell? ⟨X, 2, none⟩ = some (.int .i64 q)

theorem IsI.ne_tag {w : World} {g X t : Nat} {q : Int} {xs : List Int} (h : IsI w g xs) (k : Tag w X t q) (hl : 2 < xs.length) (hb : xs.getD 2 0 < q) : g ≠ X := by
  rintro rfl
  have := h.2 2 hl
  rw [k.c2] at this
  injection this with e
  injection e with _ e
  omega

/-- the cells of a session -/
structure SC (w : World) (X : Nat) (n t : Nat) (q b : Int) (vk vt vr : Value) (nx : Int) (vc vs v0 v1 v2 : Value) : Prop where
  c0 : w.cell? ⟨X, 0, none⟩ = some (.int .i64 (n : Int))
  c1 : w.cell? ⟨X, 1, none⟩ = some (.int .i64 (t : Int))
  c2 : w.cell? ⟨X, 2, none⟩ = some (.int .i64 q)
  c3 : w.cell? ⟨X, 3, none⟩ = some (.int .i64 b)
  c4 : w.cell? ⟨X, 4, none⟩ = some vk
  c5 : w.cell? ⟨X, 5, none⟩ = some vt
  c6 : w.cell? ⟨X, 6, none⟩ = some vr
  c7 : w.cell? ⟨X, 7, none⟩ = some (.int .i64 nx)
  c8 : w.cell? ⟨X, 8, none⟩ = some vc
  c9 : w.cell? ⟨X, 9, none⟩ = some vs
  c10 : w.cell? ⟨X, 10, none⟩ = some v0
  c11 : w.cell? ⟨X, 11, none⟩ = some v1
  c12 : w.cell? ⟨X, 12, none⟩ = some v2
  fz : ∀ o, w.frozen? ⟨X, o, none⟩ = false

theorem SC.tag {w : World} {X n t : Nat} {q b : Int} {vk vt vr : Value} {nx : Int} {vc vs v0 v1 v2 : Value} (h : SC w X n t q b vk vt vr nx vc vs v0 v1 v2) : Tag w X t q := ⟨⟨_, h.c0⟩, h.c1, h.c2⟩

theorem SC.lt {w : World} {X n t : Nat} {q b : Int} {vk vt vr : Value} {nx : Int} {vc vs v0 v1 v2 : Value} (h : SC w X n t q b vk vt vr nx vc vs v0 v1 v2) : X < w.heap.size := World.block_lt_of_cell? w ⟨X, 0, none⟩ h.c0

theorem SC.mut {S : Nat → Prop} {w w' : World} {X n t : Nat} {q b : Int} {vk vt vr : Value} {nx : Int} {vc vs v0 v1 v2 : Value} (h : SC w X n t q b vk vt vr nx vc vs v0 v1 v2) (m : Mut S w w') (hn : ¬ S X) : SC w' X n t q b vk vt vr nx vc vs v0 v1 v2 :=
  ⟨m.cell h.c0 hn, m.cell h.c1 hn, m.cell h.c2 hn, m.cell h.c3 hn, m.cell h.c4 hn, m.cell h.c5 hn, m.cell h.c6 hn, m.cell h.c7 hn, m.cell h.c8 hn, m.cell h.c9 hn, m.cell h.c10 hn, m.cell h.c11 hn, m.cell h.c12 hn, fun o => m.frozen (h.fz o) h.lt hn⟩

theorem SC.up {w w' : World} {X n t : Nat} {q b : Int} {vk vt vr : Value} {nx : Int} {vc vs v0 v1 v2 : Value} (h : SC w X n t q b vk vt vr nx vc vs v0 v1 v2) (hu : Up w w') : SC w' X n t q b vk vt vr nx vc vs v0 v1 v2 :=
  h.mut (S := fun _ => False) hu.mut (fun c => c)

theorem set_at {W : World} {r o : Nat} {x u : Value} (h : W.cell? ⟨r, o, none⟩ = some u) : (W.setCell ⟨r, o, none⟩ x).cell? ⟨r, o, none⟩ = some x := World.cell?_setCell_same _ _ _ h

theorem SC.rest {w : World} {X n t : Nat} {q b : Int} {vk vt vr : Value} {nx : Int} {vc vs v0 v1 v2 : Value} (h : SC w X n t q b vk vt vr nx vc vs v0 v1 v2) (x : Value) : SC (w.setCell ⟨X, 6, none⟩ x) X n t q b vk vt x nx vc vs v0 v1 v2 :=
  ⟨(else_cell (by decide)).trans h.c0, (else_cell (by decide)).trans h.c1, (else_cell (by decide)).trans h.c2, (else_cell (by decide)).trans h.c3, (else_cell (by decide)).trans h.c4, (else_cell (by decide)).trans h.c5, set_at h.c6, (else_cell (by decide)).trans h.c7, (else_cell (by decide)).trans h.c8, (else_cell (by decide)).trans h.c9, (else_cell (by decide)).trans h.c10, (else_cell (by decide)).trans h.c11, (else_cell (by decide)).trans h.c12, fun o => by rw [World.frozen?_setCell]; exact h.fz o⟩

theorem SC.next {w : World} {X n t : Nat} {q b : Int} {vk vt vr : Value} {nx : Int} {vc vs v0 v1 v2 : Value} (h : SC w X n t q b vk vt vr nx vc vs v0 v1 v2) (x : Int) : SC (w.setCell ⟨X, 7, none⟩ (.int .i64 x)) X n t q b vk vt vr x vc vs v0 v1 v2 :=
  ⟨(else_cell (by decide)).trans h.c0, (else_cell (by decide)).trans h.c1, (else_cell (by decide)).trans h.c2, (else_cell (by decide)).trans h.c3, (else_cell (by decide)).trans h.c4, (else_cell (by decide)).trans h.c5, (else_cell (by decide)).trans h.c6, set_at h.c7, (else_cell (by decide)).trans h.c8, (else_cell (by decide)).trans h.c9, (else_cell (by decide)).trans h.c10, (else_cell (by decide)).trans h.c11, (else_cell (by decide)).trans h.c12, fun o => by rw [World.frozen?_setCell]; exact h.fz o⟩

theorem SC.client {w : World} {X n t : Nat} {q b : Int} {vk vt vr : Value} {nx : Int} {vc vs v0 v1 v2 : Value} (h : SC w X n t q b vk vt vr nx vc vs v0 v1 v2) (x : Value) : SC (w.setCell ⟨X, 8, none⟩ x) X n t q b vk vt vr nx x vs v0 v1 v2 :=
  ⟨(else_cell (by decide)).trans h.c0, (else_cell (by decide)).trans h.c1, (else_cell (by decide)).trans h.c2, (else_cell (by decide)).trans h.c3, (else_cell (by decide)).trans h.c4, (else_cell (by decide)).trans h.c5, (else_cell (by decide)).trans h.c6, (else_cell (by decide)).trans h.c7, set_at h.c8, (else_cell (by decide)).trans h.c9, (else_cell (by decide)).trans h.c10, (else_cell (by decide)).trans h.c11, (else_cell (by decide)).trans h.c12, fun o => by rw [World.frozen?_setCell]; exact h.fz o⟩

theorem SC.server {w : World} {X n t : Nat} {q b : Int} {vk vt vr : Value} {nx : Int} {vc vs v0 v1 v2 : Value} (h : SC w X n t q b vk vt vr nx vc vs v0 v1 v2) (x : Value) : SC (w.setCell ⟨X, 9, none⟩ x) X n t q b vk vt vr nx vc x v0 v1 v2 :=
  ⟨(else_cell (by decide)).trans h.c0, (else_cell (by decide)).trans h.c1, (else_cell (by decide)).trans h.c2, (else_cell (by decide)).trans h.c3, (else_cell (by decide)).trans h.c4, (else_cell (by decide)).trans h.c5, (else_cell (by decide)).trans h.c6, (else_cell (by decide)).trans h.c7, (else_cell (by decide)).trans h.c8, set_at h.c9, (else_cell (by decide)).trans h.c10, (else_cell (by decide)).trans h.c11, (else_cell (by decide)).trans h.c12, fun o => by rw [World.frozen?_setCell]; exact h.fz o⟩

theorem SC.p0 {w : World} {X n t : Nat} {q b : Int} {vk vt vr : Value} {nx : Int} {vc vs v0 v1 v2 : Value} (h : SC w X n t q b vk vt vr nx vc vs v0 v1 v2) (x : Value) : SC (w.setCell ⟨X, 10, none⟩ x) X n t q b vk vt vr nx vc vs x v1 v2 :=
  ⟨(else_cell (by decide)).trans h.c0, (else_cell (by decide)).trans h.c1, (else_cell (by decide)).trans h.c2, (else_cell (by decide)).trans h.c3, (else_cell (by decide)).trans h.c4, (else_cell (by decide)).trans h.c5, (else_cell (by decide)).trans h.c6, (else_cell (by decide)).trans h.c7, (else_cell (by decide)).trans h.c8, (else_cell (by decide)).trans h.c9, set_at h.c10, (else_cell (by decide)).trans h.c11, (else_cell (by decide)).trans h.c12, fun o => by rw [World.frozen?_setCell]; exact h.fz o⟩

theorem SC.p1 {w : World} {X n t : Nat} {q b : Int} {vk vt vr : Value} {nx : Int} {vc vs v0 v1 v2 : Value} (h : SC w X n t q b vk vt vr nx vc vs v0 v1 v2) (x : Value) : SC (w.setCell ⟨X, 11, none⟩ x) X n t q b vk vt vr nx vc vs v0 x v2 :=
  ⟨(else_cell (by decide)).trans h.c0, (else_cell (by decide)).trans h.c1, (else_cell (by decide)).trans h.c2, (else_cell (by decide)).trans h.c3, (else_cell (by decide)).trans h.c4, (else_cell (by decide)).trans h.c5, (else_cell (by decide)).trans h.c6, (else_cell (by decide)).trans h.c7, (else_cell (by decide)).trans h.c8, (else_cell (by decide)).trans h.c9, (else_cell (by decide)).trans h.c10, set_at h.c11, (else_cell (by decide)).trans h.c12, fun o => by rw [World.frozen?_setCell]; exact h.fz o⟩

theorem SC.p2 {w : World} {X n t : Nat} {q b : Int} {vk vt vr : Value} {nx : Int} {vc vs v0 v1 v2 : Value} (h : SC w X n t q b vk vt vr nx vc vs v0 v1 v2) (x : Value) : SC (w.setCell ⟨X, 12, none⟩ x) X n t q b vk vt vr nx vc vs v0 v1 x :=
  ⟨(else_cell (by decide)).trans h.c0, (else_cell (by decide)).trans h.c1, (else_cell (by decide)).trans h.c2, (else_cell (by decide)).trans h.c3, (else_cell (by decide)).trans h.c4, (else_cell (by decide)).trans h.c5, (else_cell (by decide)).trans h.c6, (else_cell (by decide)).trans h.c7, (else_cell (by decide)).trans h.c8, (else_cell (by decide)).trans h.c9, (else_cell (by decide)).trans h.c10, (else_cell (by decide)).trans h.c11, set_at h.c12, fun o => by rw [World.frozen?_setCell]; exact h.fz o⟩

/-- a drawn mask -/
def maskI (n : Nat) (t : Int) (d : List UInt8) : List Int := (List.range n).map fun i => (numL d (2 * i) 2 : Int) % t

theorem maskI_length (n : Nat) (t : Int) (d : List UInt8) : (maskI n t d).length = n := by simp [maskI]

theorem maskI_lt (n : Nat) (t : Int) (d : List UInt8) (ht : 0 < t) : ∀ i, i < n → 0 ≤ (maskI n t d).getD i 0 ∧ (maskI n t d).getD i 0 < t := by
  intro i hi
  rw [maskI, getD_range hi]
  exact mod_bounds ht _

set_option maxHeartbeats 2000000 in
theorem Mask_calls (n t : Nat) (q b : Int) (s : ByteArray) (w : World) (hs : s.size ≤ maxLen) (hn4 : 4 ≤ n) (hn : n ≤ 16) (ht : 1 ≤ t) (ht2 : t ≤ 1021) :
    Calls Tryz.prog 128 #[.agg #[.int .i64 n, .int .i64 t, .int .i64 q, .int .i64 b], .string s] w fun e w' => ∃ g c, n ≤ c ∧ e = .returned (.slice (some ⟨g, 0, none⟩) n c) ∧ IsI w' g (maskI n t s.data.toList) ∧ Up w w' := by
  have ed1 : ¬ (t : Int) = 0 := by omega
  have ed2 : ¬ t = 0 := by omega
  have ed0 : ((t : Int) == 0) = false := beq_eq_false_iff_ne.2 ed1
  have HMl : Hid _ := maskI_length n t s.data.toList
  have HMe : Hid (maskI n t s.data.toList = (List.range n).map fun i => (numL s.data.toList (2 * i) 2 : Int) % t) := rfl
  generalize maskI n t s.data.toList = MK at HMl HMe
  have HFs : Hid (∀ k, (List.range (k + 1)).map (fun i => (numL s.data.toList (2 * i) 2 : Int) % t) = (List.range k).map (fun i => (numL s.data.toList (2 * i) 2 : Int) % t) ++ [(numL s.data.toList (2 * k) 2 : Int) % t]) := fun k => map_range_succ _ _
  have HFl : Hid (∀ k, ((List.range k).map (fun i => (numL s.data.toList (2 * i) 2 : Int) % t)).length = k) := fun k => by simp
  generalize hFF : (fun i => (numL s.data.toList (2 * i) 2 : Int) % (t : Int)) = FF at HFs HFl HMe
  clear hFF
  obtain ⟨W, hW⟩ : ∃ W, W = w.alloc (.cells #[.int .i64 n, .int .i64 t, .int .i64 q, .int .i64 b] 28) := ⟨_, rfl⟩
  have huW : Up w W := by rw [hW]; exact (Up.refl _).alloc _
  have hS1 : W.cell? ⟨w.heap.size, 1, none⟩ = some (.int .i64 (t : Int)) := by rw [hW]; simp [go_sem]
  have hS0 : W.cell? ⟨w.heap.size, 0, none⟩ = some (.int .i64 (n : Int)) := by rw [hW]; simp [go_sem]
  have KS0 : Hid _ := hS0
  have KS1 : Hid _ := hS1
  have hc1 : ¬ (t : Int) < 1 := by omega
  go_enter Tryz.func128, Tryz.ntmps128
  go_wp2_with fail
  rw [← hW]
  clear hW
  clear hS0 hS1
  go_loopw [5, 6] (fun v j wr => ∃ k : Nat, k ≤ n ∧ j = .int .i64 (k : Int) ∧ OwnI wr W.heap.size v ((List.range k).map FF) ∧ Up W wr) (fun _ j _ => n - (intOf j).toNat)
  case atStart => exact ⟨0, Nat.zero_le _, rfl, World.ownsRow_nil _ _ _ _, Up.refl _⟩
  case round =>
    obtain ⟨k, hk, rfl, hown, hu⟩ := hrel
    have hS0 := keepC hu KS0.out
    have hS1 := keepC hu KS1.out
    by_cases hlt : k < n
    · have HR : Hid _ := HFs.out k
      have HNu : Hid (∀ W, Calls Tryz.prog 151 #[.string s, .int .i64 (2 * (k : Int)), .int .i64 2] W fun e w' => e = .returned (.int .i64 (numL s.data.toList (2 * k) 2 : Nat)) ∧ w' = W) := fun W => by
        have := drawNumber_calls s (2 * k) 2 W hs (by omega) (by omega)
        rw [show ((2 * k : Nat) : Int) = 2 * (k : Int) by omega] at this
        exact this
      have hnb := numL_two s.data.toList (2 * k)
      generalize numL s.data.toList (2 * k) 2 = x at HR HNu hnb
      have e1 : (x : Int).tmod (t : Int) = (x : Int) % (t : Int) := Int.tmod_eq_emod_of_nonneg (by omega)
      have e2 : IntKind.i64.wrap (2 * (k : Int)) = 2 * (k : Int) := IntWalk.i64_in _ (by omega)
      have hsz : W.heap.size ≤ wr.heap.size := hu.size
      go_wp2_with (first | (go_at_call 151; refine Calls.mono (HNu.out _) ?_; rintro e w' ⟨rfl, rfl⟩) | (at_builtin; refine append_int _ _ rfl (.tmp 21) (.tmp 26) rfl _ _ _ rfl hown rfl (by rw [HFl.out]; omega) hsz ?_))
      intro v4 w4 hown4 hg4 hb4 _
      clear hown hS0 hS1
      go_wp2_with fail
      go_roundw
      case rel => exact ⟨k + 1, by omega, by go_num, by rw [HR.out]; exact hown4, Below.trans hu hb4⟩
      case measure => simp [intOf]; omega
    · obtain rfl : k = n := by omega
      rw [← HMe.out] at hown
      obtain ⟨g5, c5, rfl, _, i5, hc5⟩ := hown.isc (ne_nil_of_length HMl.out (by omega))
      rw [HMl.out] at hc5 ⊢
      have HC5 : Hid _ := hc5
      clear hown hc5
      go_wp2_with fail
      go_ret
      exact ⟨g5, c5, HC5.out, rfl, i5, huW.trans hu⟩

end Go.Proofs.YtcjhgbljhpflfabGreat

namespace Go.Proofs.YtcjhgbljhpflfabGreat
open Go.RowKit
set_option linter.unusedVariables false
set_option maxRecDepth 100000

theorem ct0_bounds (l : List UInt8) (n : Nat) (t q : Int) (h : ctB l n t q = true) : ∀ i, i < (ct0 l n).length → 0 ≤ (ct0 l n).getD i 0 ∧ (ct0 l n).getD i 0 < q := by
  intro i hi
  rw [ct0_length] at hi
  have h2 := ((ctB_iff _ _ _ _).1 h).2.2.1
  rw [← ct0_eq]
  exact numsL_lt _ _ _ _ h2 i hi

theorem Mut.setX {X : Nat} {a w : World} (h : Mut (fun k => k = X) a w) (o : Nat) (u : Value) : Mut (fun k => k = X) a (w.setCell ⟨X, o, none⟩ u) := Mut.setCell (S := fun k => k = X) h (p := ⟨X, o, none⟩) rfl u

theorem Up.mutX {X : Nat} {w w' : World} (h : Up w w') : Mut (fun k => k = X) w w' := h.mut

theorem decI_lt {n t : Nat} (g : NT n t) (xs : List Int) : ∀ i, i < n → 0 ≤ (decI n t xs).getD i 0 ∧ (decI n t xs).getD i 0 < (t : Int) := by
  have ht := g.t3
  intro i hi
  rw [decI, getD_range hi, valI]
  exact mod_bounds (by omega) _

/-- a ciphertext in the three cells of a block -/
theorem encS (n t : Nat) (q b : Int) (key : List UInt8) (cl : List Int) (gs cs gv cv : Nat) (d : ByteArray) (w : World) (hd : d.size ≤ maxLen) (g : NT n t) (hq : 2 ≤ q) (hq2 : q ≤ 1073741823) (hfit : fitsB t q 2 = true) (hlv : cl.length = n) (hbv : ∀ i, i < n → 0 ≤ cl.getD i 0 ∧ cl.getD i 0 < (t : Int)) (is : IsI w gs (secI key n)) (iv : IsI w gv cl) :
    Calls Tryz.prog 82 #[.agg #[.int .i64 n, .int .i64 t, .int .i64 q, .int .i64 b], .slice (some ⟨gs, 0, none⟩) n cs, .slice (some ⟨gv, 0, none⟩) n cv, .string d] w fun e w' => ∃ g0 c0 g1 c1, e = .returned (.agg #[.int .i64 (ctE (hideL n t q key (textsL 2 cl) d.data.toList) : Nat), .slice (some ⟨g0, 0, none⟩) n c0, .slice (some ⟨g1, 0, none⟩) n c1]) ∧ IsI w' g0 (ct0 (hideL n t q key (textsL 2 cl) d.data.toList) n) ∧ IsI w' g1 (ct1 (hideL n t q key (textsL 2 cl) d.data.toList) n) ∧ Up w w' := by
  have ht2 := g.ht
  have h256 : ((256 ^ 2 : Nat) : Int) = 65536 := by decide
  refine (cipherEncrypt_calls n t q b (secI key n) cl gs cs gv cv d w hd g hq hq2 (secI_length _ _) hlv (secI_bnd2 _ _ _ (by omega)) (fun i hi => by rw [hlv] at hi; have := hbv i hi; omega) is iv).mono ?_
  rintro e w' ⟨g0, c0, g1, c1, rfl, i0, i1, hu⟩
  have e1 : hideL n t q key (textsL 2 cl) d.data.toList = toldL 2 (coverI n (secI key n) (liftI n t q cl) q d.data.toList 0) (pairA d.data.toList q n 0) := by
    rw [hideL_cover, nums_texts cl n 2 t hlv hbv (by omega)]
  obtain ⟨_, h2, h3, h4⟩ := told_read n 2 t q (coverI n (secI key n) (liftI n t q cl) q d.data.toList 0) (pairA d.data.toList q n 0) (coverI_length _ _ _ _ _ _) (pairA_length _ _ _ _) (by omega) (fun i hi => plusI_bounds _ _ _ _ (by omega) i (by rw [plusI_length]; exact hi)) (fun i hi => pairA_bounds _ _ _ _ (by omega) i (by rw [pairA_length]; exact hi)) (by omega) hfit
  refine ⟨g0, c0, g1, c1, ?_, ?_, ?_, hu⟩
  · rw [e1, h2]; rfl
  · rw [e1, h3]; exact i0
  · rw [e1, h4]; exact i1

theorem hide_told (n t : Nat) (q : Int) (key : List UInt8) (cl : List Int) (d : List UInt8) (g : NT n t) (hq : 2 ≤ q) (hq2 : q ≤ 1073741823) (hfit : fitsB t q 2 = true) : ctB (hideL n t q key (textsL 2 cl) d) n t q = true ∧ toldL (ctE (hideL n t q key (textsL 2 cl) d)) (ct0 (hideL n t q key (textsL 2 cl) d) n) (ct1 (hideL n t q key (textsL 2 cl) d) n) = hideL n t q key (textsL 2 cl) d := by
  obtain ⟨h1, h2, h3, h4⟩ := told_read n 2 t q (coverI n (secI key n) (liftI n t q (numsL (textsL 2 cl) 2 n)) q d 0) (pairA d q n 0) (coverI_length _ _ _ _ _ _) (pairA_length _ _ _ _) (by omega) (fun i hi => plusI_bounds _ _ _ _ (by omega) i (by rw [plusI_length]; exact hi)) (fun i hi => pairA_bounds _ _ _ _ (by omega) i (by rw [pairA_length]; exact hi)) (by omega) hfit
  rw [hideL_cover]
  refine ⟨h1, ?_⟩
  rw [h2, h3, h4]

theorem writeS (n t : Nat) (q : Int) (y : List UInt8) (g0 k0 g1 k1 : Nat) (w : World) (g : NT n t) (hq : 2 ≤ q) (hq2 : q ≤ 1073741823) (hy : ctB y n t q = true) (hw : toldL (ctE y) (ct0 y n) (ct1 y n) = y) (i0 : IsI w g0 (ct0 y n)) (i1 : IsI w g1 (ct1 y n)) :
    Calls Tryz.prog 83 #[.agg #[.int .i64 (ctE y : Nat), .slice (some ⟨g0, 0, none⟩) n k0, .slice (some ⟨g1, 0, none⟩) n k1]] w fun r w' => r = .returned (.string ⟨y.toArray⟩) ∧ Up w w' := by
  have hhf := g.half
  have ht := g.t3
  have hE := ctE_lt y n t q (by omega) (by omega) hy
  have := cipherWrite_calls n (ctE y) (ct0 y n) (ct1 y n) g0 g1 k0 k1 w (by omega) (by omega) (ct0_length _ _) (ct1_length _ _) (fun i hi => by have := ct0_bounds y n t q hy i hi; omega) (fun i hi => by have := ct1_bounds y n t q hy i hi; omega) i0 i1
  rw [hw] at this
  exact this

theorem else_pass {W : World} {X o : Nat} {a b c : Value} (h : o < 10) : (((W.setCell ⟨X, 10, none⟩ a).setCell ⟨X, 11, none⟩ b).setCell ⟨X, 12, none⟩ c).cell? ⟨X, o, none⟩ = W.cell? ⟨X, o, none⟩ := (else_cell (by omega)).trans ((else_cell (by omega)).trans (else_cell (by omega)))

theorem fits_q {t : Nat} {q : Int} (ht : 9 ≤ t) (hq : 2 ≤ q) (h : fitsB t q 2 = true) : (t : Int) < q := by
  unfold fitsB at h
  have h1 := Int.emod_nonneg q (b := (t : Int)) (by omega)
  have h2 : 0 ≤ q % (t : Int) * ((t : Int) - 1) := Int.mul_nonneg h1 (by omega)
  simp at h
  omega

set_option maxHeartbeats 4000000 in
theorem send_calls (X n t : Nat) (q b : Int) (key : List UInt8) (cl : List Int) (gk ck gc cc : Nat) (vt vr : Value) (nx : Int) (vs v0 v1 v2 : Value) (d : ByteArray) (w : World) (hd : d.size ≤ maxLen) (g : NT n t) (hq : 2 ≤ q) (hq2 : q ≤ 1073741823) (hfit : fitsB t q 2 = true) (hlv : cl.length = n) (hbv : ∀ i, i < n → 0 ≤ cl.getD i 0 ∧ cl.getD i 0 < (t : Int))
    (hS : SC w X n t q b (.slice (some ⟨gk, 0, none⟩) n ck) vt vr nx (.slice (some ⟨gc, 0, none⟩) n cc) vs v0 v1 v2) (is : IsI w gk (secI key n)) (iv : IsI w gc cl) :
    Calls Tryz.prog 78 #[.pointer (some ⟨X, 0, none⟩), .string d] w fun e w' => ∃ g0 c0 g1 c1, e = .returned (.string ⟨(hideL n t q key (textsL 2 cl) d.data.toList).toArray⟩) ∧ SC w' X n t q b (.slice (some ⟨gk, 0, none⟩) n ck) vt vr 1 (.slice (some ⟨gc, 0, none⟩) n cc) vs (.int .i64 (ctE (hideL n t q key (textsL 2 cl) d.data.toList) : Nat)) (.slice (some ⟨g0, 0, none⟩) n c0) (.slice (some ⟨g1, 0, none⟩) n c1) ∧ IsI w' g0 (ct0 (hideL n t q key (textsL 2 cl) d.data.toList) n) ∧ IsI w' g1 (ct1 (hideL n t q key (textsL 2 cl) d.data.toList) n) ∧ Mut (fun k => k = X) w w' := by
  have hhf := g.half
  have hn4 : 4 ≤ n := by omega
  have HEn : Hid _ := fun W => encS n t q b key cl gk ck gc cc d W hd g hq hq2 hfit hlv hbv
  obtain ⟨hct, htl⟩ := hide_told n t q key cl d.data.toList g hq hq2 hfit
  generalize hideL n t q key (textsL 2 cl) d.data.toList = y at HEn hct htl
  have HWr : Hid _ := fun g0 k0 g1 k1 W => writeS n t q y g0 k0 g1 k1 W g hq hq2 hct htl
  have HB0 : Hid _ := ct0_bounds y n t q hct
  have HB1 : Hid _ := ct1_bounds y n t q hct
  have HL0 : Hid _ := ct0_length y n
  have HL1 : Hid _ := ct1_length y n
  have HSC : Hid _ := hS
  have hS0 := hS.c0
  have hS1 := hS.c1
  have hS2 := hS.c2
  have hS3 := hS.c3
  have hS4 := hS.c4
  have hS8 := hS.c8
  clear hS hct htl
  go_enter Tryz.func78, Tryz.ntmps78
  go_wp2_with fail
  refine wp_region_noPanic ?_
  refine wp_region_held_drew (S := (fun w' => w'.cell? ⟨X, 0, none⟩ = some (.int .i64 (n : Int)) ∧ w'.cell? ⟨X, 1, none⟩ = some (.int .i64 (t : Int)) ∧ w'.cell? ⟨X, 2, none⟩ = some (.int .i64 q) ∧ w'.cell? ⟨X, 3, none⟩ = some (.int .i64 b) ∧ w'.cell? ⟨X, 4, none⟩ = some (.slice (some ⟨gk, 0, none⟩) n ck) ∧ w'.cell? ⟨X, 8, none⟩ = some (.slice (some ⟨gc, 0, none⟩) n cc))) (by kernel_rfl) ?_ (fun hHeld => ?_)
  · exact ⟨hS0, hS1, hS2, hS3, hS4, hS8⟩
  refine wpAnyH_take (i := 0) (oi := { dst := some 5, op := Op.move (Operand.tmp 0), type := 38, pos := "session.go:97", after := #[], guard := none }) (v := ?_) rfl (by kernel_rfl) (by kernel_rfl) (by kernel_rfl) (fun _ _ _ h => h) (Or.inl ⟨by rfl, ?_⟩) (by assumption) ?_
  rotate_left
  · (intro w hSw; (try dsimp only at hSw); go_simp; try with_reducible rfl)
  try simp only [Act.put, List.setIfInBounds_toArray, List.set_cons_zero, List.set_cons_succ]
  refine wpAnyH_take (i := 1) (oi := { dst := some 6, op := Op.move (Operand.tmp 0), type := 38, pos := "session.go:97", after := #[], guard := none }) (v := ?_) rfl (by kernel_rfl) (by kernel_rfl) (by kernel_rfl) (fun _ _ _ h => h) (Or.inl ⟨by rfl, ?_⟩) (by assumption) ?_
  rotate_left
  · (intro w hSw; (try dsimp only at hSw); go_simp; try with_reducible rfl)
  try simp only [Act.put, List.setIfInBounds_toArray, List.set_cons_zero, List.set_cons_succ]
  refine wpAnyH_take (i := 2) (oi := { dst := some 7, op := Op.nilCheck (Operand.tmp 6), type := 0, pos := "session.go:97", after := #[{ on := 1, ground := Ground.data }], guard := none }) (v := ?_) rfl (by kernel_rfl) (by kernel_rfl) (by kernel_rfl) (fun _ _ _ h => h) (Or.inl ⟨by rfl, ?_⟩) (by assumption) ?_
  rotate_left
  · (intro w hSw; (try dsimp only at hSw); go_simp; try with_reducible rfl)
  try simp only [Act.put, List.setIfInBounds_toArray, List.set_cons_zero, List.set_cons_succ]
  refine wpAnyH_take (i := 3) (oi := { dst := some 8, op := Op.fieldAddr 126 (Operand.tmp 7) 0, type := 0, pos := "session.go:97", after := #[{ on := 2, ground := Ground.data }], guard := none }) (v := ?_) rfl (by kernel_rfl) (by kernel_rfl) (by kernel_rfl) (fun _ _ _ h => h) (Or.inl ⟨by rfl, ?_⟩) (by assumption) ?_
  rotate_left
  · (intro w hSw; (try dsimp only at hSw); go_simp; try with_reducible rfl)
  try simp only [Act.put, List.setIfInBounds_toArray, List.set_cons_zero, List.set_cons_succ]
  refine wpAnyH_take (i := 4) (oi := { dst := some 9, op := Op.load 28 (Operand.tmp 8), type := 28, pos := "session.go:97", after := #[{ on := 3, ground := Ground.data }], guard := none }) (v := ?_) rfl (by kernel_rfl) (by kernel_rfl) (by kernel_rfl) (fun _ _ _ h => h) (Or.inl ⟨by rfl, ?_⟩) (by assumption) ?_
  rotate_left
  · (intro w hSw; (try dsimp only at hSw); go_simp; try with_reducible rfl)
  try simp only [Act.put, List.setIfInBounds_toArray, List.set_cons_zero, List.set_cons_succ]
  refine wpAnyH_take (i := 5) (oi := { dst := some 10, op := Op.move (Operand.tmp 0), type := 38, pos := "session.go:97", after := #[], guard := none }) (v := ?_) rfl (by kernel_rfl) (by kernel_rfl) (by kernel_rfl) (fun _ _ _ h => h) (Or.inl ⟨by rfl, ?_⟩) (by assumption) ?_
  rotate_left
  · (intro w hSw; (try dsimp only at hSw); go_simp; try with_reducible rfl)
  try simp only [Act.put, List.setIfInBounds_toArray, List.set_cons_zero, List.set_cons_succ]
  refine wpAnyH_take (i := 6) (oi := { dst := some 11, op := Op.nilCheck (Operand.tmp 10), type := 0, pos := "session.go:97", after := #[{ on := 5, ground := Ground.data }], guard := none }) (v := ?_) rfl (by kernel_rfl) (by kernel_rfl) (by kernel_rfl) (fun _ _ _ h => h) (Or.inl ⟨by rfl, ?_⟩) (by assumption) ?_
  rotate_left
  · (intro w hSw; (try dsimp only at hSw); go_simp; try with_reducible rfl)
  try simp only [Act.put, List.setIfInBounds_toArray, List.set_cons_zero, List.set_cons_succ]
  refine wpAnyH_take (i := 7) (oi := { dst := some 12, op := Op.fieldAddr 126 (Operand.tmp 11) 1, type := 0, pos := "session.go:97", after := #[{ on := 6, ground := Ground.data }], guard := none }) (v := ?_) rfl (by kernel_rfl) (by kernel_rfl) (by kernel_rfl) (fun _ _ _ h => h) (Or.inl ⟨by rfl, ?_⟩) (by assumption) ?_
  rotate_left
  · (intro w hSw; (try dsimp only at hSw); go_simp; try with_reducible rfl)
  try simp only [Act.put, List.setIfInBounds_toArray, List.set_cons_zero, List.set_cons_succ]
  refine wpAnyH_take (i := 8) (oi := { dst := some 13, op := Op.load 54 (Operand.tmp 12), type := 54, pos := "session.go:97", after := #[{ on := 7, ground := Ground.data }], guard := none }) (v := ?_) rfl (by kernel_rfl) (by kernel_rfl) (by kernel_rfl) (fun _ _ _ h => h) (Or.inl ⟨by rfl, ?_⟩) (by assumption) ?_
  rotate_left
  · (intro w hSw; (try dsimp only at hSw); go_simp; try with_reducible rfl)
  try simp only [Act.put, List.setIfInBounds_toArray, List.set_cons_zero, List.set_cons_succ]
  refine wpAnyH_take (i := 9) (oi := { dst := some 14, op := Op.move (Operand.tmp 0), type := 38, pos := "session.go:97", after := #[], guard := none }) (v := ?_) rfl (by kernel_rfl) (by kernel_rfl) (by kernel_rfl) (fun _ _ _ h => h) (Or.inl ⟨by rfl, ?_⟩) (by assumption) ?_
  rotate_left
  · (intro w hSw; (try dsimp only at hSw); go_simp; try with_reducible rfl)
  try simp only [Act.put, List.setIfInBounds_toArray, List.set_cons_zero, List.set_cons_succ]
  refine wpAnyH_take (i := 10) (oi := { dst := some 15, op := Op.nilCheck (Operand.tmp 14), type := 0, pos := "session.go:97", after := #[{ on := 9, ground := Ground.data }], guard := none }) (v := ?_) rfl (by kernel_rfl) (by kernel_rfl) (by kernel_rfl) (fun _ _ _ h => h) (Or.inl ⟨by rfl, ?_⟩) (by assumption) ?_
  rotate_left
  · (intro w hSw; (try dsimp only at hSw); go_simp; try with_reducible rfl)
  try simp only [Act.put, List.setIfInBounds_toArray, List.set_cons_zero, List.set_cons_succ]
  refine wpAnyH_take (i := 11) (oi := { dst := some 16, op := Op.fieldAddr 126 (Operand.tmp 15) 5, type := 0, pos := "session.go:97", after := #[{ on := 10, ground := Ground.data }], guard := none }) (v := ?_) rfl (by kernel_rfl) (by kernel_rfl) (by kernel_rfl) (fun _ _ _ h => h) (Or.inl ⟨by rfl, ?_⟩) (by assumption) ?_
  rotate_left
  · (intro w hSw; (try dsimp only at hSw); go_simp; try with_reducible rfl)
  try simp only [Act.put, List.setIfInBounds_toArray, List.set_cons_zero, List.set_cons_succ]
  refine wpAnyH_take (i := 12) (oi := { dst := some 17, op := Op.load 54 (Operand.tmp 16), type := 54, pos := "session.go:97", after := #[{ on := 11, ground := Ground.data }], guard := none }) (v := ?_) rfl (by kernel_rfl) (by kernel_rfl) (by kernel_rfl) (fun _ _ _ h => h) (Or.inl ⟨by rfl, ?_⟩) (by assumption) ?_
  rotate_left
  · (intro w hSw; (try dsimp only at hSw); go_simp; try with_reducible rfl)
  try simp only [Act.put, List.setIfInBounds_toArray, List.set_cons_zero, List.set_cons_succ]
  refine wpAnyH_take (i := 13) (oi := { dst := some 18, op := Op.move (Operand.tmp 1), type := 9, pos := "session.go:97", after := #[], guard := none }) (v := ?_) rfl (by kernel_rfl) (by kernel_rfl) (by kernel_rfl) (fun _ _ _ h => h) (Or.inl ⟨by rfl, ?_⟩) (by assumption) ?_
  rotate_left
  · (intro w hSw; (try dsimp only at hSw); go_simp; try with_reducible rfl)
  try simp only [Act.put, List.setIfInBounds_toArray, List.set_cons_zero, List.set_cons_succ]
  refine wpAnyH_ready (rs := [14]) (by kernel_rfl) (by simp) ?_
  refine AllReadyH.cons (o := { dst := some 19, op := Op.call { callee := Callee.value (Operand.func 82), args := #[Operand.tmp 9, Operand.tmp 13, Operand.tmp 17, Operand.tmp 18], argTypes := #[28, 54, 54, 9] }, type := 84, pos := "session.go:97", after := #[{ on := 4, ground := Ground.data }, { on := 8, ground := Ground.data }, { on := 12, ground := Ground.data }, { on := 13, ground := Ground.data }], guard := none }) rfl (fun K hK => ?_) ?_
  · go_simp
    refine Calls.mono (HEn.out _ (is.up (Up.drew (Up.refl _))) (iv.up (Up.drew (Up.refl _)))) ?_
    rintro r w2 ⟨g0, c0, g1, c1, rfl, i0, i1, hu2⟩
    have hu12 : Up w w2 := Up.trans (Up.drew (Up.refl _)) hu2
    have hSC2 := HSC.out.up hu12
    have hg10 := hSC2.c10
    have hg11 := hSC2.c11
    have hg12 := hSC2.c12
    have hzg : ∀ o, w2.frozen? ⟨X, o, none⟩ = false := hSC2.fz
    have HSC2 : Hid _ := hSC2
    clear hSC2
    go_wp2_with fail
    refine hK.out _ _ ?_ (fun hHeld2 => ?_)
    · exact keepC6 hu2 hHeld
    clear hHeld
    have hHeld := hHeld2
    clear hHeld2
    clear hK K
    try simp only [Act.put, List.setIfInBounds_toArray, List.set_cons_zero, List.set_cons_succ]
    refine wpAnyH_take (i := 15) (oi := { dst := some 20, op := Op.nilCheck (Operand.tmp 5), type := 0, pos := "session.go:97", after := #[{ on := 0, ground := Ground.data }, { on := 0, ground := Ground.phase }, { on := 1, ground := Ground.phase }, { on := 2, ground := Ground.phase }, { on := 3, ground := Ground.phase }, { on := 4, ground := Ground.phase }, { on := 5, ground := Ground.phase }, { on := 6, ground := Ground.phase }, { on := 7, ground := Ground.phase }, { on := 8, ground := Ground.phase }, { on := 9, ground := Ground.phase }, { on := 10, ground := Ground.phase }, { on := 11, ground := Ground.phase }, { on := 12, ground := Ground.phase }, { on := 13, ground := Ground.phase }, { on := 14, ground := Ground.phase }], guard := none }) (v := ?_) rfl (by kernel_rfl) (by kernel_rfl) (by kernel_rfl) (fun _ _ _ h => h) (Or.inl ⟨by rfl, ?_⟩) (by assumption) ?_
    rotate_left
    · (intro w hSw; (try dsimp only at hSw); go_simp; try with_reducible rfl)
    try simp only [Act.put, List.setIfInBounds_toArray, List.set_cons_zero, List.set_cons_succ]
    refine wpAnyH_take (i := 16) (oi := { dst := some 21, op := Op.fieldAddr 126 (Operand.tmp 20) 7, type := 0, pos := "session.go:97", after := #[{ on := 15, ground := Ground.data }, { on := 0, ground := Ground.phase }, { on := 1, ground := Ground.phase }, { on := 2, ground := Ground.phase }, { on := 3, ground := Ground.phase }, { on := 4, ground := Ground.phase }, { on := 5, ground := Ground.phase }, { on := 6, ground := Ground.phase }, { on := 7, ground := Ground.phase }, { on := 8, ground := Ground.phase }, { on := 9, ground := Ground.phase }, { on := 10, ground := Ground.phase }, { on := 11, ground := Ground.phase }, { on := 12, ground := Ground.phase }, { on := 13, ground := Ground.phase }, { on := 14, ground := Ground.phase }], guard := none }) (v := ?_) rfl (by kernel_rfl) (by kernel_rfl) (by kernel_rfl) (fun _ _ _ h => h) (Or.inl ⟨by rfl, ?_⟩) (by assumption) ?_
    rotate_left
    · (intro w hSw; (try dsimp only at hSw); go_simp; try with_reducible rfl)
    try simp only [Act.put, List.setIfInBounds_toArray, List.set_cons_zero, List.set_cons_succ]
    refine wpAnyH_ready (rs := [17]) (by kernel_rfl) (by simp) ?_
    refine AllReadyH.cons (o := { dst := none, op := Op.store 84 (Operand.tmp 21) (Operand.tmp 19), type := 0, pos := "session.go:97", after := #[{ on := 16, ground := Ground.data }, { on := 14, ground := Ground.data }, { on := 14, ground := Ground.chain }, { on := 0, ground := Ground.phase }, { on := 1, ground := Ground.phase }, { on := 2, ground := Ground.phase }, { on := 3, ground := Ground.phase }, { on := 4, ground := Ground.phase }, { on := 5, ground := Ground.phase }, { on := 6, ground := Ground.phase }, { on := 7, ground := Ground.phase }, { on := 8, ground := Ground.phase }, { on := 9, ground := Ground.phase }, { on := 10, ground := Ground.phase }, { on := 11, ground := Ground.phase }, { on := 12, ground := Ground.phase }, { on := 13, ground := Ground.phase }, { on := 14, ground := Ground.phase }], guard := none }) rfl (fun K hK => ?_) ?_
    · go_simp
      refine hK.out _ _ ?_ (fun hHeld2 => ?_)
      · exact ⟨(else_pass (by omega)).trans hHeld.1, (else_pass (by omega)).trans hHeld.2.1, (else_pass (by omega)).trans hHeld.2.2.1, (else_pass (by omega)).trans hHeld.2.2.2.1, (else_pass (by omega)).trans hHeld.2.2.2.2.1, (else_pass (by omega)).trans hHeld.2.2.2.2.2⟩
      clear hHeld
      have hHeld := hHeld2
      clear hHeld2
      clear hK K
      try simp only [Act.put, List.setIfInBounds_toArray, List.set_cons_zero, List.set_cons_succ]
      refine wpAnyH_done (by kernel_rfl) ?_ _
      refine NoPanic.normal ?_
      have hSC3 := ((HSC2.out.p0 (.int .i64 (ctE y : Nat))).p1 (.slice (some ⟨g0, 0, none⟩) n c0)).p2 (.slice (some ⟨g1, 0, none⟩) n c1)
      have n0 : g0 ≠ X := i0.ne_tag HSC2.out.tag (by rw [HL0.out]; omega) (HB0.out 2 (by rw [HL0.out]; omega)).2
      have n1 : g1 ≠ X := i1.ne_tag HSC2.out.tag (by rw [HL1.out]; omega) (HB1.out 2 (by rw [HL1.out]; omega)).2
      have j0 := ((i0.set n0 10 (.int .i64 (ctE y : Nat))).set n0 11 (.slice (some ⟨g0, 0, none⟩) n c0)).set n0 12 (.slice (some ⟨g1, 0, none⟩) n c1)
      have j1 := ((i1.set n1 10 (.int .i64 (ctE y : Nat))).set n1 11 (.slice (some ⟨g0, 0, none⟩) n c0)).set n1 12 (.slice (some ⟨g1, 0, none⟩) n c1)
      have hm3 : Mut (fun k => k = X) w (((w2.setCell ⟨X, 10, none⟩ (.int .i64 (ctE y : Nat))).setCell ⟨X, 11, none⟩ (.slice (some ⟨g0, 0, none⟩) n c0)).setCell ⟨X, 12, none⟩ (.slice (some ⟨g1, 0, none⟩) n c1)) := ((hu12.mutX.setX 10 _).setX 11 _).setX 12 _
      generalize (((w2.setCell ⟨X, 10, none⟩ (.int .i64 (ctE y : Nat))).setCell ⟨X, 11, none⟩ (.slice (some ⟨g0, 0, none⟩) n c0)).setCell ⟨X, 12, none⟩ (.slice (some ⟨g1, 0, none⟩) n c1)) = W3 at hSC3 j0 j1 hm3 ⊢
      clear hHeld hu2 hu12 hS0 hS1 hS2 hS3 hS4 hS8 hg10 hg11 hg12 hzg HSC2 i0 i1
      have k7 := hSC3.c7
      have k10 := hSC3.c10
      have k11 := hSC3.c11
      have k12 := hSC3.c12
      have kz : ∀ o, W3.frozen? ⟨X, o, none⟩ = false := hSC3.fz
      have hSC4 := hSC3.next 1
      have HSC4 : Hid _ := hSC4
      have hm4 : Mut (fun k => k = X) w (W3.setCell ⟨X, 7, none⟩ (.int .i64 1)) := hm3.setX 7 _
      have jj0 := j0.set n0 7 (.int .i64 1)
      have jj1 := j1.set n1 7 (.int .i64 1)
      clear hSC3 hSC4 j0 j1
      go_wp2_with fail
      refine Calls.mono (HWr.out _ _ _ _ _ jj0 jj1) ?_
      rintro r w5 ⟨rfl, hu5⟩
      clear k7 k10 k11 k12 kz
      go_wp2_with fail
      go_ret
      exact ⟨g0, c0, g1, c1, rfl, HSC4.out.up hu5, jj0.up hu5, jj1.up hu5, hm4.trans hu5.mutX⟩
    exact AllReadyH.nil
  exact AllReadyH.nil

theorem keepC8s {p0 p1 p2 p3 p4 p5 p6 p7 : Addr} {u0 u1 u2 u3 u4 u5 u6 u7 : Value} {W W' : World} (hu : Up W W') (hS : W.cell? p0 = some u0 ∧ W.cell? p1 = some u1 ∧ W.cell? p2 = some u2 ∧ W.cell? p3 = some u3 ∧ W.cell? p4 = some u4 ∧ W.cell? p5 = some u5 ∧ W.cell? p6 = some u6 ∧ W.cell? p7 = some u7) :
    W'.cell? p0 = some u0 ∧ W'.cell? p1 = some u1 ∧ W'.cell? p2 = some u2 ∧ W'.cell? p3 = some u3 ∧ W'.cell? p4 = some u4 ∧ W'.cell? p5 = some u5 ∧ W'.cell? p6 = some u6 ∧ W'.cell? p7 = some u7 :=
  ⟨keepC hu hS.1, keepC7 hu hS.2⟩

set_option maxHeartbeats 4000000 in
theorem open_sess (X n t : Nat) (q b : Int) (key y : List UInt8) (gk ck g0 c0 g1 c1 : Nat) (vt vr : Value) (nx : Int) (vc vs : Value) (w : World) (g : NT n t) (hq : 2 ≤ q) (hq2 : q ≤ 1073741823) (hct : ctB y n t q = true)
    (hS : SC w X n t q b (.slice (some ⟨gk, 0, none⟩) n ck) vt vr nx vc vs (.int .i64 (ctE y : Nat)) (.slice (some ⟨g0, 0, none⟩) n c0) (.slice (some ⟨g1, 0, none⟩) n c1)) (is : IsI w gk (secI key n)) (i0 : IsI w g0 (ct0 y n)) (i1 : IsI w g1 (ct1 y n)) (htq : (t : Int) < q) :
    Calls Tryz.prog 80 #[.pointer (some ⟨X, 0, none⟩)] w fun e w' => ∃ gc cc, n ≤ cc ∧ e = .returned (.tuple #[]) ∧ SC w' X n t q b (.slice (some ⟨gk, 0, none⟩) n ck) vt vr 3 (.slice (some ⟨gc, 0, none⟩) n cc) vs (.int .i64 0) (.slice none 0 0) (.slice none 0 0) ∧ IsI w' gc (decI n t (openI n t q (plusI n (ct0 y n) (timesI n (ct1 y n) (secI key n) q) q))) ∧ Mut (fun k => k = X) w w' := by
  have hhf := g.half
  have hn4 : 4 ≤ n := by omega
  have HDe : Hid (∀ W, IsI W gk (secI key n) → IsI W g0 (ct0 y n) → IsI W g1 (ct1 y n) → Calls Tryz.prog 85 #[.agg #[.int .i64 n, .int .i64 t, .int .i64 q, .int .i64 b], .slice (some ⟨gk, 0, none⟩) n ck, .agg #[.int .i64 (ctE y : Nat), .slice (some ⟨g0, 0, none⟩) n c0, .slice (some ⟨g1, 0, none⟩) n c1]] W fun r w' => ∃ gc cc, n ≤ cc ∧ r = .returned (.slice (some ⟨gc, 0, none⟩) n cc) ∧ IsI w' gc (decI n t (openI n t q (plusI n (ct0 y n) (timesI n (ct1 y n) (secI key n) q) q))) ∧ Up W w') := fun W h1 h2 h3 => by
    refine (cipherDecrypt_calls n t (ctE y) q b (secI key n) (ct0 y n) (ct1 y n) gk ck g0 c0 g1 c1 W g hq hq2 (secI_length _ _) (ct0_length _ _) (ct1_length _ _) (secI_bnd2 _ _ _ (by omega)) (ct0_bnd y n t q hct hq2 _ (by omega)) (ct1_bnd y n t q hct hq2 _ (by omega)) h1 h2 h3).mono ?_
    rintro e w' ⟨v, rfl, ho, hu⟩
    obtain ⟨gc, cc, rfl, _, i, hc⟩ := ho.isc (ne_nil_of_length (decI_length _ _ _) (by omega))
    rw [decI_length] at hc ⊢
    exact ⟨gc, cc, hc, rfl, i, hu⟩
  have HB : Hid (∀ i, i < n → (decI n t (openI n t q (plusI n (ct0 y n) (timesI n (ct1 y n) (secI key n) q) q))).getD i 0 < (t : Int)) := fun i hi => (decI_lt g _ i hi).2
  have HL : Hid _ := decI_length n t (openI n t q (plusI n (ct0 y n) (timesI n (ct1 y n) (secI key n) q) q))
  generalize decI n t (openI n t q (plusI n (ct0 y n) (timesI n (ct1 y n) (secI key n) q) q)) = D at HDe HB HL
  have HSC : Hid _ := hS
  have hS0 := hS.c0
  have hS1 := hS.c1
  have hS2 := hS.c2
  have hS3 := hS.c3
  have hS4 := hS.c4
  have hS10 := hS.c10
  have hS11 := hS.c11
  have hS12 := hS.c12
  clear hS
  go_enter Tryz.func80, Tryz.ntmps80
  go_wp2_with fail
  refine wp_region_noPanic ?_
  refine wp_region_held_drew (S := (fun w' => w'.cell? ⟨X, 0, none⟩ = some (.int .i64 (n : Int)) ∧ w'.cell? ⟨X, 1, none⟩ = some (.int .i64 (t : Int)) ∧ w'.cell? ⟨X, 2, none⟩ = some (.int .i64 q) ∧ w'.cell? ⟨X, 3, none⟩ = some (.int .i64 b) ∧ w'.cell? ⟨X, 4, none⟩ = some (.slice (some ⟨gk, 0, none⟩) n ck) ∧ w'.cell? ⟨X, 10, none⟩ = some (.int .i64 (ctE y : Nat)) ∧ w'.cell? ⟨X, 11, none⟩ = some (.slice (some ⟨g0, 0, none⟩) n c0) ∧ w'.cell? ⟨X, 12, none⟩ = some (.slice (some ⟨g1, 0, none⟩) n c1))) (by kernel_rfl) ?_ (fun hHeld => ?_)
  · exact ⟨hS0, hS1, hS2, hS3, hS4, hS10, hS11, hS12⟩
  refine wpAnyH_take (i := 0) (oi := { dst := some 2, op := Op.move (Operand.tmp 0), type := 38, pos := "session.go:118", after := #[], guard := none }) (v := ?_) rfl (by kernel_rfl) (by kernel_rfl) (by kernel_rfl) (fun _ _ _ h => h) (Or.inl ⟨by rfl, ?_⟩) (by assumption) ?_
  rotate_left
  · (intro w hSw; (try dsimp only at hSw); go_simp; try with_reducible rfl)
  try simp only [Act.put, List.setIfInBounds_toArray, List.set_cons_zero, List.set_cons_succ]
  refine wpAnyH_take (i := 1) (oi := { dst := some 3, op := Op.move (Operand.tmp 0), type := 38, pos := "session.go:118", after := #[], guard := none }) (v := ?_) rfl (by kernel_rfl) (by kernel_rfl) (by kernel_rfl) (fun _ _ _ h => h) (Or.inl ⟨by rfl, ?_⟩) (by assumption) ?_
  rotate_left
  · (intro w hSw; (try dsimp only at hSw); go_simp; try with_reducible rfl)
  try simp only [Act.put, List.setIfInBounds_toArray, List.set_cons_zero, List.set_cons_succ]
  refine wpAnyH_take (i := 2) (oi := { dst := some 4, op := Op.nilCheck (Operand.tmp 3), type := 0, pos := "session.go:118", after := #[{ on := 1, ground := Ground.data }], guard := none }) (v := ?_) rfl (by kernel_rfl) (by kernel_rfl) (by kernel_rfl) (fun _ _ _ h => h) (Or.inl ⟨by rfl, ?_⟩) (by assumption) ?_
  rotate_left
  · (intro w hSw; (try dsimp only at hSw); go_simp; try with_reducible rfl)
  try simp only [Act.put, List.setIfInBounds_toArray, List.set_cons_zero, List.set_cons_succ]
  refine wpAnyH_take (i := 3) (oi := { dst := some 5, op := Op.fieldAddr 126 (Operand.tmp 4) 0, type := 0, pos := "session.go:118", after := #[{ on := 2, ground := Ground.data }], guard := none }) (v := ?_) rfl (by kernel_rfl) (by kernel_rfl) (by kernel_rfl) (fun _ _ _ h => h) (Or.inl ⟨by rfl, ?_⟩) (by assumption) ?_
  rotate_left
  · (intro w hSw; (try dsimp only at hSw); go_simp; try with_reducible rfl)
  try simp only [Act.put, List.setIfInBounds_toArray, List.set_cons_zero, List.set_cons_succ]
  refine wpAnyH_take (i := 4) (oi := { dst := some 6, op := Op.load 28 (Operand.tmp 5), type := 28, pos := "session.go:118", after := #[{ on := 3, ground := Ground.data }], guard := none }) (v := ?_) rfl (by kernel_rfl) (by kernel_rfl) (by kernel_rfl) (fun _ _ _ h => h) (Or.inl ⟨by rfl, ?_⟩) (by assumption) ?_
  rotate_left
  · (intro w hSw; (try dsimp only at hSw); go_simp; try with_reducible rfl)
  try simp only [Act.put, List.setIfInBounds_toArray, List.set_cons_zero, List.set_cons_succ]
  refine wpAnyH_take (i := 5) (oi := { dst := some 7, op := Op.move (Operand.tmp 0), type := 38, pos := "session.go:118", after := #[], guard := none }) (v := ?_) rfl (by kernel_rfl) (by kernel_rfl) (by kernel_rfl) (fun _ _ _ h => h) (Or.inl ⟨by rfl, ?_⟩) (by assumption) ?_
  rotate_left
  · (intro w hSw; (try dsimp only at hSw); go_simp; try with_reducible rfl)
  try simp only [Act.put, List.setIfInBounds_toArray, List.set_cons_zero, List.set_cons_succ]
  refine wpAnyH_take (i := 6) (oi := { dst := some 8, op := Op.nilCheck (Operand.tmp 7), type := 0, pos := "session.go:118", after := #[{ on := 5, ground := Ground.data }], guard := none }) (v := ?_) rfl (by kernel_rfl) (by kernel_rfl) (by kernel_rfl) (fun _ _ _ h => h) (Or.inl ⟨by rfl, ?_⟩) (by assumption) ?_
  rotate_left
  · (intro w hSw; (try dsimp only at hSw); go_simp; try with_reducible rfl)
  try simp only [Act.put, List.setIfInBounds_toArray, List.set_cons_zero, List.set_cons_succ]
  refine wpAnyH_take (i := 7) (oi := { dst := some 9, op := Op.fieldAddr 126 (Operand.tmp 8) 1, type := 0, pos := "session.go:118", after := #[{ on := 6, ground := Ground.data }], guard := none }) (v := ?_) rfl (by kernel_rfl) (by kernel_rfl) (by kernel_rfl) (fun _ _ _ h => h) (Or.inl ⟨by rfl, ?_⟩) (by assumption) ?_
  rotate_left
  · (intro w hSw; (try dsimp only at hSw); go_simp; try with_reducible rfl)
  try simp only [Act.put, List.setIfInBounds_toArray, List.set_cons_zero, List.set_cons_succ]
  refine wpAnyH_take (i := 8) (oi := { dst := some 10, op := Op.load 54 (Operand.tmp 9), type := 54, pos := "session.go:118", after := #[{ on := 7, ground := Ground.data }], guard := none }) (v := ?_) rfl (by kernel_rfl) (by kernel_rfl) (by kernel_rfl) (fun _ _ _ h => h) (Or.inl ⟨by rfl, ?_⟩) (by assumption) ?_
  rotate_left
  · (intro w hSw; (try dsimp only at hSw); go_simp; try with_reducible rfl)
  try simp only [Act.put, List.setIfInBounds_toArray, List.set_cons_zero, List.set_cons_succ]
  refine wpAnyH_take (i := 9) (oi := { dst := some 11, op := Op.move (Operand.tmp 0), type := 38, pos := "session.go:118", after := #[], guard := none }) (v := ?_) rfl (by kernel_rfl) (by kernel_rfl) (by kernel_rfl) (fun _ _ _ h => h) (Or.inl ⟨by rfl, ?_⟩) (by assumption) ?_
  rotate_left
  · (intro w hSw; (try dsimp only at hSw); go_simp; try with_reducible rfl)
  try simp only [Act.put, List.setIfInBounds_toArray, List.set_cons_zero, List.set_cons_succ]
  refine wpAnyH_take (i := 10) (oi := { dst := some 12, op := Op.nilCheck (Operand.tmp 11), type := 0, pos := "session.go:118", after := #[{ on := 9, ground := Ground.data }], guard := none }) (v := ?_) rfl (by kernel_rfl) (by kernel_rfl) (by kernel_rfl) (fun _ _ _ h => h) (Or.inl ⟨by rfl, ?_⟩) (by assumption) ?_
  rotate_left
  · (intro w hSw; (try dsimp only at hSw); go_simp; try with_reducible rfl)
  try simp only [Act.put, List.setIfInBounds_toArray, List.set_cons_zero, List.set_cons_succ]
  refine wpAnyH_take (i := 11) (oi := { dst := some 13, op := Op.fieldAddr 126 (Operand.tmp 12) 7, type := 0, pos := "session.go:118", after := #[{ on := 10, ground := Ground.data }], guard := none }) (v := ?_) rfl (by kernel_rfl) (by kernel_rfl) (by kernel_rfl) (fun _ _ _ h => h) (Or.inl ⟨by rfl, ?_⟩) (by assumption) ?_
  rotate_left
  · (intro w hSw; (try dsimp only at hSw); go_simp; try with_reducible rfl)
  try simp only [Act.put, List.setIfInBounds_toArray, List.set_cons_zero, List.set_cons_succ]
  refine wpAnyH_take (i := 12) (oi := { dst := some 14, op := Op.load 84 (Operand.tmp 13), type := 84, pos := "session.go:118", after := #[{ on := 11, ground := Ground.data }], guard := none }) (v := ?_) rfl (by kernel_rfl) (by kernel_rfl) (by kernel_rfl) (fun _ _ _ h => h) (Or.inl ⟨by rfl, ?_⟩) (by assumption) ?_
  rotate_left
  · (intro w hSw; (try dsimp only at hSw); go_simp; try with_reducible rfl)
  try simp only [Act.put, List.setIfInBounds_toArray, List.set_cons_zero, List.set_cons_succ]
  refine wpAnyH_ready (rs := [13]) (by kernel_rfl) (by simp) ?_
  refine AllReadyH.cons (o := { dst := some 15, op := Op.call { callee := Callee.value (Operand.func 85), args := #[Operand.tmp 6, Operand.tmp 10, Operand.tmp 14], argTypes := #[28, 54, 84] }, type := 54, pos := "session.go:118", after := #[{ on := 4, ground := Ground.data }, { on := 8, ground := Ground.data }, { on := 12, ground := Ground.data }], guard := none }) rfl (fun K hK => ?_) ?_
  · go_simp
    refine Calls.mono (HDe.out _ (is.up (Up.drew (Up.refl _))) (i0.up (Up.drew (Up.refl _))) (i1.up (Up.drew (Up.refl _)))) ?_
    rintro r w2 ⟨gc, cc, hcc, rfl, ic, hu2⟩
    have HCC : Hid _ := hcc
    have hu12 : Up w w2 := Up.trans (Up.drew (Up.refl _)) hu2
    have hSC2 := HSC.out.up hu12
    have hg8 := hSC2.c8
    have hzg : ∀ o, w2.frozen? ⟨X, o, none⟩ = false := hSC2.fz
    have HSC2 : Hid _ := hSC2
    clear hSC2 hcc
    go_wp2_with fail
    refine hK.out _ _ ?_ (fun hHeld2 => ?_)
    · exact keepC8s hu2 hHeld
    clear hHeld
    have hHeld := hHeld2
    clear hHeld2
    clear hK K
    try simp only [Act.put, List.setIfInBounds_toArray, List.set_cons_zero, List.set_cons_succ]
    refine wpAnyH_take (i := 14) (oi := { dst := some 16, op := Op.nilCheck (Operand.tmp 2), type := 0, pos := "session.go:118", after := #[{ on := 0, ground := Ground.data }, { on := 0, ground := Ground.phase }, { on := 1, ground := Ground.phase }, { on := 2, ground := Ground.phase }, { on := 3, ground := Ground.phase }, { on := 4, ground := Ground.phase }, { on := 5, ground := Ground.phase }, { on := 6, ground := Ground.phase }, { on := 7, ground := Ground.phase }, { on := 8, ground := Ground.phase }, { on := 9, ground := Ground.phase }, { on := 10, ground := Ground.phase }, { on := 11, ground := Ground.phase }, { on := 12, ground := Ground.phase }, { on := 13, ground := Ground.phase }], guard := none }) (v := ?_) rfl (by kernel_rfl) (by kernel_rfl) (by kernel_rfl) (fun _ _ _ h => h) (Or.inl ⟨by rfl, ?_⟩) (by assumption) ?_
    rotate_left
    · (intro w hSw; (try dsimp only at hSw); go_simp; try with_reducible rfl)
    try simp only [Act.put, List.setIfInBounds_toArray, List.set_cons_zero, List.set_cons_succ]
    refine wpAnyH_take (i := 15) (oi := { dst := some 17, op := Op.fieldAddr 126 (Operand.tmp 16) 5, type := 0, pos := "session.go:118", after := #[{ on := 14, ground := Ground.data }, { on := 0, ground := Ground.phase }, { on := 1, ground := Ground.phase }, { on := 2, ground := Ground.phase }, { on := 3, ground := Ground.phase }, { on := 4, ground := Ground.phase }, { on := 5, ground := Ground.phase }, { on := 6, ground := Ground.phase }, { on := 7, ground := Ground.phase }, { on := 8, ground := Ground.phase }, { on := 9, ground := Ground.phase }, { on := 10, ground := Ground.phase }, { on := 11, ground := Ground.phase }, { on := 12, ground := Ground.phase }, { on := 13, ground := Ground.phase }], guard := none }) (v := ?_) rfl (by kernel_rfl) (by kernel_rfl) (by kernel_rfl) (fun _ _ _ h => h) (Or.inl ⟨by rfl, ?_⟩) (by assumption) ?_
    rotate_left
    · (intro w hSw; (try dsimp only at hSw); go_simp; try with_reducible rfl)
    try simp only [Act.put, List.setIfInBounds_toArray, List.set_cons_zero, List.set_cons_succ]
    refine wpAnyH_ready (rs := [16]) (by kernel_rfl) (by simp) ?_
    refine AllReadyH.cons (o := { dst := none, op := Op.store 54 (Operand.tmp 17) (Operand.tmp 15), type := 0, pos := "session.go:118", after := #[{ on := 15, ground := Ground.data }, { on := 13, ground := Ground.data }, { on := 13, ground := Ground.chain }, { on := 0, ground := Ground.phase }, { on := 1, ground := Ground.phase }, { on := 2, ground := Ground.phase }, { on := 3, ground := Ground.phase }, { on := 4, ground := Ground.phase }, { on := 5, ground := Ground.phase }, { on := 6, ground := Ground.phase }, { on := 7, ground := Ground.phase }, { on := 8, ground := Ground.phase }, { on := 9, ground := Ground.phase }, { on := 10, ground := Ground.phase }, { on := 11, ground := Ground.phase }, { on := 12, ground := Ground.phase }, { on := 13, ground := Ground.phase }], guard := none }) rfl (fun K hK => ?_) ?_
    · go_simp
      refine hK.out _ _ ?_ (fun hHeld2 => ?_)
      · exact ⟨(else_cell (by decide)).trans hHeld.1, (else_cell (by decide)).trans hHeld.2.1, (else_cell (by decide)).trans hHeld.2.2.1, (else_cell (by decide)).trans hHeld.2.2.2.1, (else_cell (by decide)).trans hHeld.2.2.2.2.1, (else_cell (by decide)).trans hHeld.2.2.2.2.2.1, (else_cell (by decide)).trans hHeld.2.2.2.2.2.2.1, (else_cell (by decide)).trans hHeld.2.2.2.2.2.2.2⟩
      clear hHeld
      have hHeld := hHeld2
      clear hHeld2
      clear hK K
      try simp only [Act.put, List.setIfInBounds_toArray, List.set_cons_zero, List.set_cons_succ]
      refine wpAnyH_done (by kernel_rfl) ?_ _
      refine NoPanic.normal ?_
      have hSC3 := HSC2.out.client (.slice (some ⟨gc, 0, none⟩) n cc)
      have n0 : gc ≠ X := ic.ne_tag HSC2.out.tag (by rw [HL.out]; omega) (by have := HB.out 2 (by omega); omega)
      have j0 := ic.set n0 8 (.slice (some ⟨gc, 0, none⟩) n cc)
      have hm3 : Mut (fun k => k = X) w (w2.setCell ⟨X, 8, none⟩ (.slice (some ⟨gc, 0, none⟩) n cc)) := hu12.mutX.setX 8 _
      generalize (w2.setCell ⟨X, 8, none⟩ (.slice (some ⟨gc, 0, none⟩) n cc)) = W3 at hSC3 j0 hm3 ⊢
      clear hHeld hu2 hu12 hS0 hS1 hS2 hS3 hS4 hS10 hS11 hS12 hg8 hzg HSC2 ic
      have k7 := hSC3.c7
      have k10 := hSC3.c10
      have k11 := hSC3.c11
      have k12 := hSC3.c12
      have kz : ∀ o, W3.frozen? ⟨X, o, none⟩ = false := hSC3.fz
      have hSC4 := (((hSC3.p0 (.int .i64 0)).p1 (.slice none 0 0)).p2 (.slice none 0 0)).next 3
      have HSC4 : Hid _ := hSC4
      have hm4 : Mut (fun k => k = X) w ((((W3.setCell ⟨X, 10, none⟩ (.int .i64 0)).setCell ⟨X, 11, none⟩ (.slice none 0 0)).setCell ⟨X, 12, none⟩ (.slice none 0 0)).setCell ⟨X, 7, none⟩ (.int .i64 3)) := (((hm3.setX 10 _).setX 11 _).setX 12 _).setX 7 _
      have jj0 := (((j0.set n0 10 (.int .i64 0)).set n0 11 (.slice none 0 0)).set n0 12 (.slice none 0 0)).set n0 7 (.int .i64 3)
      clear hSC3 hSC4 j0
      go_wp2_with fail
      go_end0
      exact ⟨gc, cc, HCC.out, rfl, HSC4.out, jj0, hm4⟩
    exact AllReadyH.nil
  exact AllReadyH.nil

end Go.Proofs.YtcjhgbljhpflfabGreat
