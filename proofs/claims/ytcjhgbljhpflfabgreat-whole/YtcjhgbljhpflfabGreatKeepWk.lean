/-
  Walks: a layer worked out, of the statements without the document's answer.
-/
import Derived.Test.YtcjhgbljhpflfabGreatKeepLy
namespace Go.Proofs.YtcjhgbljhpflfabGreat
open Go.RowKit
set_option linter.unusedVariables false
set_option maxRecDepth 100000

/-- what lies in memory while a layer is worked out: S the first block of the call, G the layer's -/
structure WkAt (W : World) (S G n t : Nat) (bd : Bool) (sh : Nat) (ms : ByteArray) (mv bv : Value) : Prop where
  a2 : W.cell? ⟨S, 2, none⟩ = some (.string ms)
  b0 : W.cell? ⟨S + 1, 0, none⟩ = some (.int .i64 (n : Int))
  b1 : W.cell? ⟨S + 1, 1, none⟩ = some (.int .i64 (t : Int))
  r0 : W.cell? ⟨S + 1 + 1, 0, none⟩ = some (.bool false)
  r1 : W.cell? ⟨S + 1 + 1, 1, none⟩ = some (.int .i64 0)
  r2 : W.cell? ⟨S + 1 + 1, 2, none⟩ = some (.slice none 0 0)
  r3 : W.cell? ⟨S + 1 + 1, 3, none⟩ = some (.slice none 0 0)
  g0 : W.cell? ⟨G, 0, none⟩ = some (.bool bd)
  g1 : W.cell? ⟨G, 1, none⟩ = some (.int .i64 (sh : Int))
  g2 : W.cell? ⟨G, 2, none⟩ = some mv
  g3 : W.cell? ⟨G, 3, none⟩ = some bv
  zr : ∀ o, W.frozen? ⟨S + 1 + 1, o, none⟩ = false
  zg : ∀ o, W.frozen? ⟨G, o, none⟩ = false
  lt : S + 3 ≤ G

theorem far_set {W : World} {r o g o' : Nat} {x : Value} (h : r ≠ g) : (W.setCell ⟨r, o, none⟩ x).cell? ⟨g, o', none⟩ = W.cell? ⟨g, o', none⟩ := World.cell?_setCell_other _ _ _ _ (by intro e; simp only [Addr.mk.injEq] at e; omega)
theorem else_set {W : World} {r o o' : Nat} {x : Value} (h : o ≠ o') : (W.setCell ⟨r, o, none⟩ x).cell? ⟨r, o', none⟩ = W.cell? ⟨r, o', none⟩ := World.cell?_setCell_other _ _ _ _ (by intro e; simp only [Addr.mk.injEq] at e; omega)

/-- one number more -/
theorem WkAt.next {W W4 : World} {S G n t base : Nat} {bd : Bool} {sh : Nat} {ms : ByteArray} {mv bv : Value} (h : WkAt W S G n t bd sh ms mv bv) (hb : Below base W W4) (hG : G < base) (v : Value) : WkAt (W4.setCell ⟨G, 2, none⟩ v) S G n t bd sh ms v bv := by
  have lt := h.lt
  have k : ∀ {g o : Nat} {u : Value}, g < base → W.cell? ⟨g, o, none⟩ = some u → W4.cell? ⟨g, o, none⟩ = some u := fun {g o u} hg hc => (hb.cell (p := ⟨g, o, none⟩) hg).trans hc
  have z : ∀ {g : Nat}, g < base → (∀ o, W.frozen? ⟨g, o, none⟩ = false) → ∀ o, (W4.setCell ⟨G, 2, none⟩ v).frozen? ⟨g, o, none⟩ = false := fun {g} hg hz o => by simpa using (hb.frozen (p := ⟨g, o, none⟩) hg).trans (hz o)
  exact ⟨(far_set (by omega)).trans (k (by omega) h.a2), (far_set (by omega)).trans (k (by omega) h.b0), (far_set (by omega)).trans (k (by omega) h.b1),
    (far_set (by omega)).trans (k (by omega) h.r0), (far_set (by omega)).trans (k (by omega) h.r1), (far_set (by omega)).trans (k (by omega) h.r2), (far_set (by omega)).trans (k (by omega) h.r3),
    (else_set (by decide)).trans (k hG h.g0), (else_set (by decide)).trans (k hG h.g1), World.cell?_setCell_same _ _ _ (k hG h.g2), (else_set (by decide)).trans (k hG h.g3), z (by omega) h.zr, z hG h.zg, lt⟩

theorem IsI.put {W : World} {g G o : Nat} {xs : List Int} (h : IsI W g xs) (hne : G ≠ g) (v : Value) : IsI (W.setCell ⟨G, o, none⟩ v) g xs :=
  ⟨by simpa using h.1, fun i hi => (far_set hne).trans (h.2 i hi)⟩

theorem IsI.below {W W' : World} {g base : Nat} {xs : List Int} (h : IsI W g xs) (hb : Below base W W') (hg : g < base) : IsI W' g xs :=
  ⟨Nat.lt_of_lt_of_le h.1 hb.size, fun i hi => (hb.cell (p := ⟨g, i, none⟩) hg).trans (h.2 i hi)⟩

theorem keepG {W : World} {G S : Nat} {x0 x1 x2 x3 u0 u1 u2 u3 u4 u5 u6 : Value} (h0 : G ≠ S) (h1 : G ≠ S + 1) (hS : W.cell? ⟨S, 0, none⟩ = some u0 ∧ W.cell? ⟨S, 1, none⟩ = some u1 ∧ W.cell? ⟨S, 3, none⟩ = some u2 ∧ W.cell? ⟨S + 1, 0, none⟩ = some u3 ∧ W.cell? ⟨S + 1, 1, none⟩ = some u4 ∧ W.cell? ⟨S + 1, 2, none⟩ = some u5 ∧ W.cell? ⟨S + 1, 3, none⟩ = some u6) :
    ((((W.setCell ⟨G, 0, none⟩ x0).setCell ⟨G, 1, none⟩ x1).setCell ⟨G, 2, none⟩ x2).setCell ⟨G, 3, none⟩ x3).cell? ⟨S, 0, none⟩ = some u0 ∧ ((((W.setCell ⟨G, 0, none⟩ x0).setCell ⟨G, 1, none⟩ x1).setCell ⟨G, 2, none⟩ x2).setCell ⟨G, 3, none⟩ x3).cell? ⟨S, 1, none⟩ = some u1 ∧ ((((W.setCell ⟨G, 0, none⟩ x0).setCell ⟨G, 1, none⟩ x1).setCell ⟨G, 2, none⟩ x2).setCell ⟨G, 3, none⟩ x3).cell? ⟨S, 3, none⟩ = some u2 ∧ ((((W.setCell ⟨G, 0, none⟩ x0).setCell ⟨G, 1, none⟩ x1).setCell ⟨G, 2, none⟩ x2).setCell ⟨G, 3, none⟩ x3).cell? ⟨S + 1, 0, none⟩ = some u3 ∧ ((((W.setCell ⟨G, 0, none⟩ x0).setCell ⟨G, 1, none⟩ x1).setCell ⟨G, 2, none⟩ x2).setCell ⟨G, 3, none⟩ x3).cell? ⟨S + 1, 1, none⟩ = some u4 ∧ ((((W.setCell ⟨G, 0, none⟩ x0).setCell ⟨G, 1, none⟩ x1).setCell ⟨G, 2, none⟩ x2).setCell ⟨G, 3, none⟩ x3).cell? ⟨S + 1, 2, none⟩ = some u5 ∧ ((((W.setCell ⟨G, 0, none⟩ x0).setCell ⟨G, 1, none⟩ x1).setCell ⟨G, 2, none⟩ x2).setCell ⟨G, 3, none⟩ x3).cell? ⟨S + 1, 3, none⟩ = some u6 := by
  have f : ∀ {g o : Nat}, G ≠ g → ((((W.setCell ⟨G, 0, none⟩ x0).setCell ⟨G, 1, none⟩ x1).setCell ⟨G, 2, none⟩ x2).setCell ⟨G, 3, none⟩ x3).cell? ⟨g, o, none⟩ = W.cell? ⟨g, o, none⟩ := fun h => (far_set h).trans ((far_set h).trans ((far_set h).trans (far_set h)))
  obtain ⟨a0, a1, a2, a3, a4, a5, a6⟩ := hS
  exact ⟨(f h0).trans a0, (f h0).trans a1, (f h0).trans a2, (f h1).trans a3, (f h1).trans a4, (f h1).trans a5, (f h1).trans a6⟩


theorem wkA {W0 w2 : World} {S n t s : Nat} {bd : Bool} {ms : ByteArray} {bv : Value} (hs : W0.heap.size = S + 3) (hu : Up W0 w2) (a2 : W0.cell? ⟨S, 2, none⟩ = some (.string ms)) (b0 : W0.cell? ⟨S + 1, 0, none⟩ = some (.int .i64 (n : Int))) (b1 : W0.cell? ⟨S + 1, 1, none⟩ = some (.int .i64 (t : Int)))
    (r0 : W0.cell? ⟨S + 1 + 1, 0, none⟩ = some (.bool false)) (r1 : W0.cell? ⟨S + 1 + 1, 1, none⟩ = some (.int .i64 0)) (r2 : W0.cell? ⟨S + 1 + 1, 2, none⟩ = some (.slice none 0 0)) (r3 : W0.cell? ⟨S + 1 + 1, 3, none⟩ = some (.slice none 0 0)) (zr : ∀ o, W0.frozen? ⟨S + 1 + 1, o, none⟩ = false) :
    WkAt (w2.alloc (.cells #[.bool bd, .int .i64 (s : Int), .slice none 0 0, bv] 56)) S w2.heap.size n t bd s ms (.slice none 0 0) bv := by
  have hu3 := Up.alloc hu (.cells #[.bool bd, .int .i64 (s : Int), .slice none 0 0, bv] 56)
  have hsz := hu.size
  exact ⟨keepC hu3 a2, keepC hu3 b0, keepC hu3 b1, keepC hu3 r0, keepC hu3 r1, keepC hu3 r2, keepC hu3 r3, by simp, by simp, by simp, by simp, fun o => frozen_up hu3 r0 (zr o), fun o => by simp, by omega⟩

theorem wkB {W0 w2 : World} {S n t s : Nat} {bd : Bool} {ms : ByteArray} {bv u0 u1 u2 u3 : Value} (hs : W0.heap.size = S + 3) (hu : Up W0 w2) (n0 : w2.cell? ⟨W0.heap.size, 0, none⟩ = some u0) (n1 : w2.cell? ⟨W0.heap.size, 1, none⟩ = some u1) (n2 : w2.cell? ⟨W0.heap.size, 2, none⟩ = some u2) (n3 : w2.cell? ⟨W0.heap.size, 3, none⟩ = some u3) (hz : ∀ o, w2.frozen? ⟨W0.heap.size, o, none⟩ = false)
    (a2 : W0.cell? ⟨S, 2, none⟩ = some (.string ms)) (b0 : W0.cell? ⟨S + 1, 0, none⟩ = some (.int .i64 (n : Int))) (b1 : W0.cell? ⟨S + 1, 1, none⟩ = some (.int .i64 (t : Int)))
    (r0 : W0.cell? ⟨S + 1 + 1, 0, none⟩ = some (.bool false)) (r1 : W0.cell? ⟨S + 1 + 1, 1, none⟩ = some (.int .i64 0)) (r2 : W0.cell? ⟨S + 1 + 1, 2, none⟩ = some (.slice none 0 0)) (r3 : W0.cell? ⟨S + 1 + 1, 3, none⟩ = some (.slice none 0 0)) (zr : ∀ o, W0.frozen? ⟨S + 1 + 1, o, none⟩ = false) :
    WkAt ((((w2.setCell ⟨W0.heap.size, 0, none⟩ (.bool bd)).setCell ⟨W0.heap.size, 1, none⟩ (.int .i64 (s : Int))).setCell ⟨W0.heap.size, 2, none⟩ (.slice none 0 0)).setCell ⟨W0.heap.size, 3, none⟩ bv) S W0.heap.size n t bd s ms (.slice none 0 0) bv := by
  have f : ∀ {g o : Nat}, W0.heap.size ≠ g → ((((w2.setCell ⟨W0.heap.size, 0, none⟩ (.bool bd)).setCell ⟨W0.heap.size, 1, none⟩ (.int .i64 (s : Int))).setCell ⟨W0.heap.size, 2, none⟩ (.slice none 0 0)).setCell ⟨W0.heap.size, 3, none⟩ bv).cell? ⟨g, o, none⟩ = w2.cell? ⟨g, o, none⟩ := fun h => (far_set h).trans ((far_set h).trans ((far_set h).trans (far_set h)))
  have m1 := (else_set (W := w2) (r := W0.heap.size) (o := 0) (o' := 1) (x := .bool bd) (by decide)).trans n1
  have m2 := (else_set (W := w2.setCell ⟨W0.heap.size, 0, none⟩ (.bool bd)) (r := W0.heap.size) (o := 1) (o' := 2) (x := .int .i64 (s : Int)) (by decide)).trans ((else_set (by decide)).trans n2)
  have m3 := (else_set (W := (w2.setCell ⟨W0.heap.size, 0, none⟩ (.bool bd)).setCell ⟨W0.heap.size, 1, none⟩ (.int .i64 (s : Int))) (r := W0.heap.size) (o := 2) (o' := 3) (x := .slice none 0 0) (by decide)).trans ((else_set (by decide)).trans ((else_set (by decide)).trans n3))
  exact ⟨(f (by omega)).trans (keepC hu a2), (f (by omega)).trans (keepC hu b0), (f (by omega)).trans (keepC hu b1), (f (by omega)).trans (keepC hu r0), (f (by omega)).trans (keepC hu r1), (f (by omega)).trans (keepC hu r2), (f (by omega)).trans (keepC hu r3),
    (else_set (by decide)).trans ((else_set (by decide)).trans ((else_set (by decide)).trans (World.cell?_setCell_same _ _ _ n0))), (else_set (by decide)).trans ((else_set (by decide)).trans (World.cell?_setCell_same _ _ _ m1)), (else_set (by decide)).trans (World.cell?_setCell_same _ _ _ m2), World.cell?_setCell_same _ _ _ m3,
    fun o => by simpa using frozen_up hu r0 (zr o), fun o => by simpa using hz o, by omega⟩

set_option maxHeartbeats 16000000 in
theorem worked_calls (n t : Nat) (q b : Int) (bd : Bool) (sh : Int) (ms bs : ByteArray) (w : World) (hms : ms.size ≤ maxLen) (hbs : bs.size ≤ maxLen) (hn : n = 4 ∨ n = 8 ∨ n = 16) (ht : 1 ≤ t) (ht2 : t ≤ 1021) (hsh : -9223372036854775808 ≤ sh) (hsh2 : sh ≤ 9223372036854775807) :
    Calls Tryz.prog 16 #[.agg #[.bool bd, .int .i64 sh, .string ms, .string bs], .agg #[.int .i64 n, .int .i64 t, .int .i64 q, .int .i64 b]] w fun e w' => ∃ s gm cm gb cb : Nat, s < 8 ∧ e = .returned (.agg #[.bool bd, .int .i64 (s : Int), .slice (some ⟨gm, 0, none⟩) (n / 2 * (n / 2)) cm, .slice (some ⟨gb, 0, none⟩) n cb]) ∧ w.heap.size ≤ gm ∧ w.heap.size ≤ gb ∧ IsI w' gm (valsI (n / 2 * (n / 2)) t ms.data.toList) ∧ IsI w' gb (valsI n t bs.data.toList) ∧ Up w w' := by
  have hn16 : n ≤ 16 := by omega
  have hn4 : 4 ≤ n := by omega
  have HN : Hid _ := hn
  have HDI : Hid ((n : Int) / 2 = ((n / 2 : Nat) : Int)) := rfl
  clear hn
  go_enter Tryz.func16, Tryz.ntmps16
  go_wp2_with fail
  obtain ⟨W0, hW0⟩ : ∃ W, W = ((w.alloc (.cells #[.bool bd, .int .i64 sh, .string ms, .string bs] 58)).alloc (.cells #[.int .i64 (n : Int), .int .i64 (t : Int), .int .i64 q, .int .i64 b] 28)).alloc (.cells #[.bool false, .int .i64 0, .slice none 0 0, .slice none 0 0] 56) := ⟨_, rfl⟩
  have huW : Up w W0 := by rw [hW0]; exact (((Up.refl _).alloc _).alloc _).alloc _
  have hsz0 : W0.heap.size = w.heap.size + 3 := by rw [hW0]; simp
  have hA0 : W0.cell? ⟨w.heap.size, 0, none⟩ = some (.bool bd) := by rw [hW0]; simp [go_sem]
  have hA1 : W0.cell? ⟨w.heap.size, 1, none⟩ = some (.int .i64 sh) := by rw [hW0]; simp [go_sem]
  have hA2 : W0.cell? ⟨w.heap.size, 2, none⟩ = some (.string ms) := by rw [hW0]; simp [go_sem]
  have hA3 : W0.cell? ⟨w.heap.size, 3, none⟩ = some (.string bs) := by rw [hW0]; simp [go_sem]
  have hB0 : W0.cell? ⟨w.heap.size + 1, 0, none⟩ = some (.int .i64 (n : Int)) := by rw [hW0]; simp [go_sem]
  have hB1 : W0.cell? ⟨w.heap.size + 1, 1, none⟩ = some (.int .i64 (t : Int)) := by rw [hW0]; simp [go_sem]
  have hB2 : W0.cell? ⟨w.heap.size + 1, 2, none⟩ = some (.int .i64 q) := by rw [hW0]; simp [go_sem]
  have hB3 : W0.cell? ⟨w.heap.size + 1, 3, none⟩ = some (.int .i64 b) := by rw [hW0]; simp [go_sem]
  have hR0 : W0.cell? ⟨w.heap.size + 1 + 1, 0, none⟩ = some (.bool false) := by rw [hW0]; simp [go_sem]
  have hR1 : W0.cell? ⟨w.heap.size + 1 + 1, 1, none⟩ = some (.int .i64 0) := by rw [hW0]; simp [go_sem]
  have hR2 : W0.cell? ⟨w.heap.size + 1 + 1, 2, none⟩ = some (.slice none 0 0) := by rw [hW0]; simp [go_sem]
  have hR3 : W0.cell? ⟨w.heap.size + 1 + 1, 3, none⟩ = some (.slice none 0 0) := by rw [hW0]; simp [go_sem]
  have hZr : ∀ o, W0.frozen? ⟨w.heap.size + 1 + 1, o, none⟩ = false := fun o => by rw [hW0]; simp [go_sem]
  have HSz : Hid _ := hsz0
  have HR : Hid _ := (⟨hA2, hR0, hR1, hR2, hR3, hZr⟩ : _ ∧ _ ∧ _ ∧ _ ∧ _ ∧ _)
  rw [← hW0]
  clear hW0 hsz0 hA2 hR0 hR1 hR2 hR3 hZr
  refine wp_region_noPanic ?_
  refine wp_region_held_drew (S := (fun w' => w'.cell? ⟨w.heap.size, 0, none⟩ = some (.bool bd) ∧ w'.cell? ⟨w.heap.size, 1, none⟩ = some (.int .i64 sh) ∧ w'.cell? ⟨w.heap.size, 3, none⟩ = some (.string bs) ∧ w'.cell? ⟨w.heap.size + 1, 0, none⟩ = some (.int .i64 (n : Int)) ∧ w'.cell? ⟨w.heap.size + 1, 1, none⟩ = some (.int .i64 (t : Int)) ∧ w'.cell? ⟨w.heap.size + 1, 2, none⟩ = some (.int .i64 q) ∧ w'.cell? ⟨w.heap.size + 1, 3, none⟩ = some (.int .i64 b))) (by kernel_rfl) ?_ (fun hHeld => ?_)
  · exact ⟨hA0, hA1, hA3, hB0, hB1, hB2, hB3⟩
  refine wpAnyH_take (i := 0) (oi := { dst := some 8, op := Op.fieldAddr 58 (Operand.tmp 2) 0, type := 0, pos := "nets.go:25", after := #[], guard := none }) (v := ?_) rfl (by kernel_rfl) (by kernel_rfl) (by kernel_rfl) (fun _ _ _ h => h) (Or.inl ⟨by rfl, ?_⟩) (by assumption) ?_
  rotate_left
  · (intro w hSw; (try dsimp only at hSw); go_simp; try with_reducible rfl)
  try simp only [Act.put, List.setIfInBounds_toArray, List.set_cons_zero, List.set_cons_succ]
  refine wpAnyH_take (i := 1) (oi := { dst := some 9, op := Op.load 4 (Operand.tmp 8), type := 4, pos := "nets.go:25", after := #[{ on := 0, ground := Ground.data }], guard := none }) (v := ?_) rfl (by kernel_rfl) (by kernel_rfl) (by kernel_rfl) (fun _ _ _ h => h) (Or.inl ⟨by rfl, ?_⟩) (by assumption) ?_
  rotate_left
  · (intro w hSw; (try dsimp only at hSw); go_simp; try with_reducible rfl)
  try simp only [Act.put, List.setIfInBounds_toArray, List.set_cons_zero, List.set_cons_succ]
  refine wpAnyH_take (i := 2) (oi := { dst := some 10, op := Op.fieldAddr 58 (Operand.tmp 2) 1, type := 0, pos := "nets.go:25", after := #[], guard := none }) (v := ?_) rfl (by kernel_rfl) (by kernel_rfl) (by kernel_rfl) (fun _ _ _ h => h) (Or.inl ⟨by rfl, ?_⟩) (by assumption) ?_
  rotate_left
  · (intro w hSw; (try dsimp only at hSw); go_simp; try with_reducible rfl)
  try simp only [Act.put, List.setIfInBounds_toArray, List.set_cons_zero, List.set_cons_succ]
  refine wpAnyH_take (i := 3) (oi := { dst := some 11, op := Op.load 3 (Operand.tmp 10), type := 3, pos := "nets.go:25", after := #[{ on := 2, ground := Ground.data }], guard := none }) (v := ?_) rfl (by kernel_rfl) (by kernel_rfl) (by kernel_rfl) (fun _ _ _ h => h) (Or.inl ⟨by rfl, ?_⟩) (by assumption) ?_
  rotate_left
  · (intro w hSw; (try dsimp only at hSw); go_simp; try with_reducible rfl)
  try simp only [Act.put, List.setIfInBounds_toArray, List.set_cons_zero, List.set_cons_succ]
  refine wpAnyH_take (i := 5) (oi := { dst := some 13, op := Op.load 28 (Operand.tmp 3), type := 28, pos := "nets.go:25", after := #[], guard := none }) (v := ?_) rfl (by kernel_rfl) (by kernel_rfl) (by kernel_rfl) (fun _ _ _ h => h) (Or.inl ⟨by rfl, ?_⟩) (by assumption) ?_
  rotate_left
  · (intro w hSw; (try dsimp only at hSw); go_simp; try with_reducible rfl)
  try simp only [Act.put, List.setIfInBounds_toArray, List.set_cons_zero, List.set_cons_succ]
  refine wpAnyH_take (i := 6) (oi := { dst := some 14, op := Op.fieldAddr 58 (Operand.tmp 2) 3, type := 0, pos := "nets.go:25", after := #[], guard := none }) (v := ?_) rfl (by kernel_rfl) (by kernel_rfl) (by kernel_rfl) (fun _ _ _ h => h) (Or.inl ⟨by rfl, ?_⟩) (by assumption) ?_
  rotate_left
  · (intro w hSw; (try dsimp only at hSw); go_simp; try with_reducible rfl)
  try simp only [Act.put, List.setIfInBounds_toArray, List.set_cons_zero, List.set_cons_succ]
  refine wpAnyH_take (i := 7) (oi := { dst := some 15, op := Op.load 9 (Operand.tmp 14), type := 9, pos := "nets.go:25", after := #[{ on := 6, ground := Ground.data }], guard := none }) (v := ?_) rfl (by kernel_rfl) (by kernel_rfl) (by kernel_rfl) (fun _ _ _ h => h) (Or.inl ⟨by rfl, ?_⟩) (by assumption) ?_
  rotate_left
  · (intro w hSw; (try dsimp only at hSw); go_simp; try with_reducible rfl)
  try simp only [Act.put, List.setIfInBounds_toArray, List.set_cons_zero, List.set_cons_succ]
  refine wpAnyH_ready (rs := [4, 10]) (by kernel_rfl) (by simp) ?_
  refine AllReadyH.cons (o := { dst := some 12, op := Op.call { callee := Callee.value (Operand.func 63), args := #[Operand.tmp 11, Operand.const (Value.int IntKind.i64 8)], argTypes := #[3, 3] }, type := 3, pos := "nets.go:25", after := #[{ on := 3, ground := Ground.data }], guard := none }) rfl (fun K hK => ?_) ?_
  · go_simp
    refine Calls.mono (keepPick_calls sh 8 _ hsh hsh2 (by omega) (by omega)) ?_
    rintro r w' ⟨s, hs, rfl, rfl⟩
    go_wp2_with fail
    refine hK.out _ _ ?_ (fun hHeld2 => ?_)
    · exact hHeld
    clear hHeld
    have hHeld := hHeld2
    clear hHeld2
    clear hK K
    try simp only [Act.put, List.setIfInBounds_toArray, List.set_cons_zero, List.set_cons_succ]
    refine wpAnyH_ready (rs := [8, 10]) (by kernel_rfl) (by simp) ?_
    refine AllReadyH.cons (o := { dst := some 16, op := Op.call { callee := Callee.value (Operand.func 17), args := #[Operand.tmp 13, Operand.tmp 15], argTypes := #[28, 9] }, type := 54, pos := "nets.go:25", after := #[{ on := 5, ground := Ground.data }, { on := 7, ground := Ground.data }, { on := 4, ground := Ground.chain }], guard := none }) rfl (fun K hK => ?_) ?_
    · go_simp
      refine Calls.mono (values_calls n t q b bs _ hbs (by omega) (by omega) (by omega)) ?_
      rintro r w2 ⟨v2, rfl, ho2, hu2⟩
      obtain ⟨gb, cb, rfl, hgb, ib⟩ := ho2.is (ne_nil_of_length (valsI_length _ _ _) (by omega))
      rw [valsI_length]
      clear ho2
      have hu02 : Up W0 w2 := Up.trans (Up.drew (Up.refl _)) hu2
      go_wp2_with fail
      refine hK.out _ _ ?_ (fun hHeld2 => ?_)
      · exact keepC7 hu2 hHeld
      clear hHeld
      have hHeld := hHeld2
      clear hHeld2
      clear hK K
      try simp only [Act.put, List.setIfInBounds_toArray, List.set_cons_zero, List.set_cons_succ]
      refine wpAnyH_take (i := 9) (oi := { dst := some 17, op := Op.build 56 #[(0, Operand.tmp 9), (1, Operand.tmp 12), (3, Operand.tmp 16)], type := 56, pos := "nets.go:25", after := #[{ on := 1, ground := Ground.data }, { on := 4, ground := Ground.data }, { on := 8, ground := Ground.data }], guard := none }) (v := ?_) rfl (by kernel_rfl) (by kernel_rfl) (by kernel_rfl) (fun _ _ _ h => h) (Or.inl ⟨by rfl, ?_⟩) (by assumption) ?_
      rotate_left
      · (intro w hSw; (try dsimp only at hSw); go_simp; try with_reducible rfl)
      try simp only [Act.put, List.setIfInBounds_toArray, List.set_cons_zero, List.set_cons_succ]
      refine wpAnyH_ready (rs := [10]) (by kernel_rfl) (by simp) ?_
      refine AllReadyH.cons (o := { dst := some 5, op := Op.alloc 56, type := 0, pos := "nets.go:25", after := #[], guard := none }) rfl (fun K hK => ?_) ?_
      · go_simp
        refine hK.out _ _ ?_ (fun hHeld2 => ?_)
        · go_keep
        clear hHeld
        have hHeld := hHeld2
        clear hHeld2
        clear hK K
        try simp only [Act.put, List.setIfInBounds_toArray, List.set_cons_zero, List.set_cons_succ]
        refine wpAnyH_ready (rs := [11]) (by kernel_rfl) (by simp) ?_
        refine AllReadyH.cons (o := { dst := none, op := Op.store 56 (Operand.tmp 5) (Operand.tmp 17), type := 0, pos := "nets.go:25", after := #[{ on := 10, ground := Ground.data }, { on := 9, ground := Ground.data }, { on := 8, ground := Ground.chain }, { on := 0, ground := Ground.phase }, { on := 1, ground := Ground.phase }, { on := 2, ground := Ground.phase }, { on := 3, ground := Ground.phase }, { on := 4, ground := Ground.phase }, { on := 5, ground := Ground.phase }, { on := 6, ground := Ground.phase }, { on := 7, ground := Ground.phase }, { on := 8, ground := Ground.phase }, { on := 9, ground := Ground.phase }, { on := 10, ground := Ground.phase }], guard := none }) rfl (fun K hK => ?_) ?_
        · go_simp
          refine hK.out _ _ ?_ (fun hHeld2 => ?_)
          · (refine ⟨?_, ?_, ?_, ?_, ?_, ?_, ?_⟩ <;> (refine keepC (Up.alloc hu02 _) ?_; assumption))
          clear hHeld
          have hHeld := hHeld2
          clear hHeld2
          clear hK K
          try simp only [Act.put, List.setIfInBounds_toArray, List.set_cons_zero, List.set_cons_succ]
          refine wpAnyH_done (by kernel_rfl) ?_ _
          refine NoPanic.normal ?_
          obtain ⟨W1, hW1⟩ : ∃ W, W = w2.alloc (.cells #[.bool bd, .int .i64 (s : Int), .slice none 0 0, .slice (some ⟨gb, 0, none⟩) n cb] 56) := ⟨_, rfl⟩
          obtain ⟨G, hG⟩ : ∃ G, G = w2.heap.size := ⟨_, rfl⟩
          have hGb0 : w2.heap.size ≠ gb := by have := ib.1; omega
          have HWk : Hid (WkAt W1 w.heap.size G n t bd s ms (.slice none 0 0) (.slice (some ⟨gb, 0, none⟩) n cb)) := by rw [hW1, hG]; exact wkA HSz.out hu02 HR.out.1 hB0 hB1 HR.out.2.1 HR.out.2.2.1 HR.out.2.2.2.1 HR.out.2.2.2.2.1 HR.out.2.2.2.2.2
          have hU1 : Up w W1 := by rw [hW1]; exact (huW.trans hu02).alloc _
          have hIB : IsI W1 gb (valsI n t bs.data.toList) := by rw [hW1]; exact ib.up ((Up.refl _).alloc _)
          have hGb : G ≠ gb := by rw [hG]; exact hGb0
          have hGl : G < W1.heap.size := by rw [hW1, hG]; simp
          have hgbl := hIB.1
          have hgbR : w.heap.size + 1 + 1 ≠ gb := by have := HSz.out; simp at hgb; omega
          have hgbS : w.heap.size ≤ gb := by have := HSz.out; simp at hgb; omega
          have hltS := HWk.out.lt
          have hP0 := HWk.out.b0
          rw [← hW1, ← hG]
          clear hW1 hG hHeld hu2 hu02 ib hgb hGb0 hA0 hA1 hA3 hB0 hB1 hB2 hB3 huW
          skip
          go_wp2_with fail
          clear hP0
          rw [HDI.out]
          obtain ⟨d, hd⟩ : ∃ d, d = n / 2 := ⟨_, rfl⟩
          rw [← hd]
          have hd8 : d ≤ 8 := by omega
          have hd2 : 2 ≤ d := by omega
          have hDD : d * d ≤ 8 * 8 := Nat.mul_le_mul hd8 hd8
          have hDD2 : 2 * 2 ≤ d * d := Nat.mul_le_mul hd2 hd2
          obtain ⟨D, hD⟩ : ∃ D, D = d * d := ⟨_, rfl⟩
          rw [← hD] at hDD hDD2
          have HDD : Hid (D = n / 2 * (n / 2)) := show _ = _ by rw [hD, hd]
          have e0 : IntKind.i64.wrap ((d : Int) * (d : Int)) = (D : Int) := by rw [hD, Int.natCast_mul]; exact IntWalk.i64_in _ (by rw [← Int.natCast_mul, ← hD]; omega)
          clear hD hd
          go_loopw [7] (fun si wr => ∃ (i : Nat) (mv : Value), i ≤ D ∧ si = .int .i64 (i : Int) ∧ Hid (WkAt wr w.heap.size G n t bd s ms mv (.slice (some ⟨gb, 0, none⟩) n cb)) ∧ OwnI wr W1.heap.size mv ((List.range i).map (valC t ms.data.toList)) ∧ IsI wr gb (valsI n t bs.data.toList) ∧ Up w wr ∧ W1.heap.size ≤ wr.heap.size) (fun si _ => D - (intOf si).toNat)
          case atStart => exact ⟨0, _, Nat.zero_le _, rfl, HWk.out, World.ownsRow_nil _ _ _ _, hIB, hU1, Nat.le_refl _⟩
          case round =>
            obtain ⟨i, mv, hi, rfl, HWr, hown, iBr, hur, hszr⟩ := hrel
            by_cases hlt : i < D
            · have hA2 := HWr.out.a2
              have hB1 := HWr.out.b1
              have hG2 := HWr.out.g2
              have hzG := HWr.out.zg 2
              have c1 : (i : Int) < (D : Int) := by omega
              have hb1 := byteL_lt ms.data.toList (2 * i)
              have hb2 := byteL_lt ms.data.toList (2 * i + 1)
              have HR6 : Hid ((List.range (i + 1)).map (valC t ms.data.toList) = (List.range i).map (valC t ms.data.toList) ++ [(256 * (byteL ms.data.toList (2 * i) : Int) + (byteL ms.data.toList (2 * i + 1) : Int)) % (t : Int)]) := map_range_succ _ _
              have HX1 : Hid (byteL ms.data.toList (2 * (i : Int)).toNat = byteL ms.data.toList (2 * i)) := show _ = _ by rw [show (2 * (i : Int)).toNat = 2 * i by omega]
              have HX2 : Hid (byteL ms.data.toList (2 * (i : Int) + 1).toNat = byteL ms.data.toList (2 * i + 1)) := show _ = _ by rw [show (2 * (i : Int) + 1).toNat = 2 * i + 1 by omega]
              generalize byteL ms.data.toList (2 * i) = x at hb1 HR6 HX1
              generalize byteL ms.data.toList (2 * i + 1) = y at hb2 HR6 HX2
              have e1 : IntKind.i64.wrap (2 * (i : Int)) = 2 * (i : Int) := IntWalk.i64_in _ (by omega)
              have e2 : IntKind.i64.wrap (2 * (i : Int) + 1) = 2 * (i : Int) + 1 := IntWalk.i64_in _ (by omega)
              have e3 : IntKind.i64.wrap (256 * (x : Int)) = 256 * (x : Int) := IntWalk.i64_in _ (by omega)
              have e4 : IntKind.i64.wrap (256 * (x : Int) + (y : Int)) = 256 * (x : Int) + (y : Int) := IntWalk.i64_in _ (by omega)
              have e5 : (256 * (x : Int) + (y : Int)).tmod (t : Int) = (256 * (x : Int) + (y : Int)) % (t : Int) := Int.tmod_eq_emod_of_nonneg (by omega)
              generalize (256 * (x : Int) + (y : Int)) % (t : Int) = z at e5 HR6
              have et1 : ¬ (t : Int) = 0 := by omega
              have et2 : ¬ t = 0 := by omega
              have et0 : ((t : Int) == 0) = false := beq_eq_false_iff_ne.2 et1
              have hcn : (wr.alloc (.cells #[.int .i64 z] 3)).drew.cell? ⟨wr.heap.size, 0, none⟩ = some (.int .i64 z) := by simp
              have hG2a : (wr.alloc (.cells #[.int .i64 z] 3)).drew.cell? ⟨G, 2, none⟩ = some mv := keepC (Up.drew (Up.alloc (Up.refl wr) (.cells #[.int .i64 z] 3))) hG2
              have hbs2 := Nat.le_trans hszr (Up.drew (Up.alloc (Up.refl wr) (.cells #[.int .i64 z] 3))).size
              go_wp2_with fail
              refine wp_region_noPanic ?_
              refine wp_region_held_drew (S := (fun w' => w'.cell? ⟨w.heap.size, 2, none⟩ = some (.string ms) ∧ w'.cell? ⟨w.heap.size + 1, 1, none⟩ = some (.int .i64 (t : Int)))) (by kernel_rfl) ?_ (fun hHeld => ?_)
              · exact ⟨hA2, hB1⟩
              refine wpAnyH_take (i := 0) (oi := { dst := some 28, op := Op.fieldAddr 56 (Operand.tmp 5) 2, type := 0, pos := "nets.go:28", after := #[], guard := none }) (v := ?_) rfl (by kernel_rfl) (by kernel_rfl) (by kernel_rfl) (fun _ _ _ h => h) (Or.inl ⟨by rfl, ?_⟩) (by assumption) ?_
              rotate_left
              · (intro w hSw; (try dsimp only at hSw); go_simp; try with_reducible rfl)
              try simp only [Act.put, List.setIfInBounds_toArray, List.set_cons_zero, List.set_cons_succ]
              refine wpAnyH_take (i := 2) (oi := { dst := some 30, op := Op.fieldAddr 58 (Operand.tmp 2) 2, type := 0, pos := "nets.go:28", after := #[], guard := none }) (v := ?_) rfl (by kernel_rfl) (by kernel_rfl) (by kernel_rfl) (fun _ _ _ h => h) (Or.inl ⟨by rfl, ?_⟩) (by assumption) ?_
              rotate_left
              · (intro w hSw; (try dsimp only at hSw); go_simp; try with_reducible rfl)
              try simp only [Act.put, List.setIfInBounds_toArray, List.set_cons_zero, List.set_cons_succ]
              refine wpAnyH_take (i := 3) (oi := { dst := some 31, op := Op.load 9 (Operand.tmp 30), type := 9, pos := "nets.go:28", after := #[{ on := 2, ground := Ground.data }], guard := none }) (v := ?_) rfl (by kernel_rfl) (by kernel_rfl) (by kernel_rfl) (fun _ _ _ h => h) (Or.inl ⟨by rfl, ?_⟩) (by assumption) ?_
              rotate_left
              · (intro w hSw; (try dsimp only at hSw); go_simp; try with_reducible rfl)
              try simp only [Act.put, List.setIfInBounds_toArray, List.set_cons_zero, List.set_cons_succ]
              refine wpAnyH_take (i := 4) (oi := { dst := some 32, op := Op.move (Operand.tmp 7), type := 3, pos := "nets.go:28", after := #[], guard := none }) (v := ?_) rfl (by kernel_rfl) (by kernel_rfl) (by kernel_rfl) (fun _ _ _ h => h) (Or.inl ⟨by rfl, ?_⟩) (by assumption) ?_
              rotate_left
              · (intro w hSw; (try dsimp only at hSw); go_simp; try with_reducible rfl)
              try simp only [Act.put, List.setIfInBounds_toArray, List.set_cons_zero, List.set_cons_succ]
              refine wpAnyH_take (i := 5) (oi := { dst := some 33, op := Op.binOp BinOp.mul 3 (Operand.const (Value.int IntKind.i64 2)) (Operand.tmp 32) 3, type := 3, pos := "nets.go:28", after := #[{ on := 4, ground := Ground.data }], guard := none }) (v := ?_) rfl (by kernel_rfl) (by kernel_rfl) (by kernel_rfl) (fun _ _ _ h => h) (Or.inl ⟨by rfl, ?_⟩) (by assumption) ?_
              rotate_left
              · (intro w hSw; (try dsimp only at hSw); go_simp; try with_reducible rfl)
              try simp only [Act.put, List.setIfInBounds_toArray, List.set_cons_zero, List.set_cons_succ]
              refine wpAnyH_take (i := 8) (oi := { dst := some 36, op := Op.fieldAddr 58 (Operand.tmp 2) 2, type := 0, pos := "nets.go:28", after := #[], guard := none }) (v := ?_) rfl (by kernel_rfl) (by kernel_rfl) (by kernel_rfl) (fun _ _ _ h => h) (Or.inl ⟨by rfl, ?_⟩) (by assumption) ?_
              rotate_left
              · (intro w hSw; (try dsimp only at hSw); go_simp; try with_reducible rfl)
              try simp only [Act.put, List.setIfInBounds_toArray, List.set_cons_zero, List.set_cons_succ]
              refine wpAnyH_take (i := 9) (oi := { dst := some 37, op := Op.load 9 (Operand.tmp 36), type := 9, pos := "nets.go:28", after := #[{ on := 8, ground := Ground.data }], guard := none }) (v := ?_) rfl (by kernel_rfl) (by kernel_rfl) (by kernel_rfl) (fun _ _ _ h => h) (Or.inl ⟨by rfl, ?_⟩) (by assumption) ?_
              rotate_left
              · (intro w hSw; (try dsimp only at hSw); go_simp; try with_reducible rfl)
              try simp only [Act.put, List.setIfInBounds_toArray, List.set_cons_zero, List.set_cons_succ]
              refine wpAnyH_take (i := 10) (oi := { dst := some 38, op := Op.move (Operand.tmp 7), type := 3, pos := "nets.go:28", after := #[], guard := none }) (v := ?_) rfl (by kernel_rfl) (by kernel_rfl) (by kernel_rfl) (fun _ _ _ h => h) (Or.inl ⟨by rfl, ?_⟩) (by assumption) ?_
              rotate_left
              · (intro w hSw; (try dsimp only at hSw); go_simp; try with_reducible rfl)
              try simp only [Act.put, List.setIfInBounds_toArray, List.set_cons_zero, List.set_cons_succ]
              refine wpAnyH_take (i := 11) (oi := { dst := some 39, op := Op.binOp BinOp.mul 3 (Operand.const (Value.int IntKind.i64 2)) (Operand.tmp 38) 3, type := 3, pos := "nets.go:28", after := #[{ on := 10, ground := Ground.data }], guard := none }) (v := ?_) rfl (by kernel_rfl) (by kernel_rfl) (by kernel_rfl) (fun _ _ _ h => h) (Or.inl ⟨by rfl, ?_⟩) (by assumption) ?_
              rotate_left
              · (intro w hSw; (try dsimp only at hSw); go_simp; try with_reducible rfl)
              try simp only [Act.put, List.setIfInBounds_toArray, List.set_cons_zero, List.set_cons_succ]
              refine wpAnyH_take (i := 12) (oi := { dst := some 40, op := Op.binOp BinOp.add 3 (Operand.tmp 39) (Operand.const (Value.int IntKind.i64 1)) 3, type := 3, pos := "nets.go:28", after := #[{ on := 11, ground := Ground.data }], guard := none }) (v := ?_) rfl (by kernel_rfl) (by kernel_rfl) (by kernel_rfl) (fun _ _ _ h => h) (Or.inl ⟨by rfl, ?_⟩) (by assumption) ?_
              rotate_left
              · (intro w hSw; (try dsimp only at hSw); go_simp; try with_reducible rfl)
              try simp only [Act.put, List.setIfInBounds_toArray, List.set_cons_zero, List.set_cons_succ]
              refine wpAnyH_take (i := 15) (oi := { dst := some 43, op := Op.fieldAddr 28 (Operand.tmp 3) 1, type := 0, pos := "nets.go:28", after := #[], guard := none }) (v := ?_) rfl (by kernel_rfl) (by kernel_rfl) (by kernel_rfl) (fun _ _ _ h => h) (Or.inl ⟨by rfl, ?_⟩) (by assumption) ?_
              rotate_left
              · (intro w hSw; (try dsimp only at hSw); go_simp; try with_reducible rfl)
              try simp only [Act.put, List.setIfInBounds_toArray, List.set_cons_zero, List.set_cons_succ]
              refine wpAnyH_take (i := 16) (oi := { dst := some 44, op := Op.load 3 (Operand.tmp 43), type := 3, pos := "nets.go:28", after := #[{ on := 15, ground := Ground.data }], guard := none }) (v := ?_) rfl (by kernel_rfl) (by kernel_rfl) (by kernel_rfl) (fun _ _ _ h => h) (Or.inl ⟨by rfl, ?_⟩) (by assumption) ?_
              rotate_left
              · (intro w hSw; (try dsimp only at hSw); go_simp; try with_reducible rfl)
              try simp only [Act.put, List.setIfInBounds_toArray, List.set_cons_zero, List.set_cons_succ]
              refine wpAnyH_ready (rs := [1, 6]) (by kernel_rfl) (by simp) ?_
              refine AllReadyH.cons (o := { dst := some 29, op := Op.load 54 (Operand.tmp 28), type := 54, pos := "nets.go:28", after := #[{ on := 0, ground := Ground.data }], guard := none }) rfl (fun K hK => ?_) ?_
              · go_simp
                refine hK.out _ _ ?_ (fun hHeld2 => ?_)
                · exact hHeld
                clear hHeld
                have hHeld := hHeld2
                clear hHeld2
                clear hK K
                try simp only [Act.put, List.setIfInBounds_toArray, List.set_cons_zero, List.set_cons_succ]
                refine wpAnyH_ready (rs := [6]) (by kernel_rfl) (by simp) ?_
                refine AllReadyH.cons (o := { dst := some 34, op := Op.call { callee := Callee.value (Operand.func 64), args := #[Operand.tmp 31, Operand.tmp 33], argTypes := #[9, 3] }, type := 3, pos := "nets.go:28", after := #[{ on := 3, ground := Ground.data }, { on := 5, ground := Ground.data }], guard := none }) rfl (fun K hK => ?_) ?_
                · go_simp
                  refine Calls.mono (octet_calls _ _ _ hms (by omega)) ?_
                  rintro r w' ⟨rfl, rfl⟩
                  rw [HX1.out]
                  go_wp2_with fail
                  refine hK.out _ _ ?_ (fun hHeld2 => ?_)
                  · exact hHeld
                  clear hHeld
                  have hHeld := hHeld2
                  clear hHeld2
                  clear hK K
                  try simp only [Act.put, List.setIfInBounds_toArray, List.set_cons_zero, List.set_cons_succ]
                  refine wpAnyH_take (i := 7) (oi := { dst := some 35, op := Op.binOp BinOp.mul 3 (Operand.const (Value.int IntKind.i64 256)) (Operand.tmp 34) 3, type := 3, pos := "nets.go:28", after := #[{ on := 6, ground := Ground.data }], guard := none }) (v := ?_) rfl (by kernel_rfl) (by kernel_rfl) (by kernel_rfl) (fun _ _ _ h => h) (Or.inl ⟨by rfl, ?_⟩) (by assumption) ?_
                  rotate_left
                  · (intro w hSw; (try dsimp only at hSw); go_simp; try with_reducible rfl)
                  try simp only [Act.put, List.setIfInBounds_toArray, List.set_cons_zero, List.set_cons_succ]
                  refine wpAnyH_ready (rs := [13]) (by kernel_rfl) (by simp) ?_
                  refine AllReadyH.cons (o := { dst := some 41, op := Op.call { callee := Callee.value (Operand.func 64), args := #[Operand.tmp 37, Operand.tmp 40], argTypes := #[9, 3] }, type := 3, pos := "nets.go:28", after := #[{ on := 9, ground := Ground.data }, { on := 12, ground := Ground.data }, { on := 6, ground := Ground.chain }], guard := none }) rfl (fun K hK => ?_) ?_
                  · go_simp
                    refine Calls.mono (octet_calls _ _ _ hms (by omega)) ?_
                    rintro r w' ⟨rfl, rfl⟩
                    rw [HX2.out]
                    go_wp2_with fail
                    refine hK.out _ _ ?_ (fun hHeld2 => ?_)
                    · exact hHeld
                    clear hHeld
                    have hHeld := hHeld2
                    clear hHeld2
                    clear hK K
                    try simp only [Act.put, List.setIfInBounds_toArray, List.set_cons_zero, List.set_cons_succ]
                    refine wpAnyH_take (i := 14) (oi := { dst := some 42, op := Op.binOp BinOp.add 3 (Operand.tmp 35) (Operand.tmp 41) 3, type := 3, pos := "nets.go:28", after := #[{ on := 7, ground := Ground.data }, { on := 13, ground := Ground.data }], guard := none }) (v := ?_) rfl (by kernel_rfl) (by kernel_rfl) (by kernel_rfl) (fun _ _ _ h => h) (Or.inl ⟨by rfl, ?_⟩) (by assumption) ?_
                    rotate_left
                    · (intro w hSw; (try dsimp only at hSw); go_simp; try with_reducible rfl)
                    try simp only [Act.put, List.setIfInBounds_toArray, List.set_cons_zero, List.set_cons_succ]
                    refine wpAnyH_take (i := 17) (oi := { dst := some 45, op := Op.binOp BinOp.rem 3 (Operand.tmp 42) (Operand.tmp 44) 3, type := 3, pos := "nets.go:28", after := #[{ on := 14, ground := Ground.data }, { on := 16, ground := Ground.data }], guard := none }) (v := ?_) rfl (by kernel_rfl) (by kernel_rfl) (by kernel_rfl) (fun _ _ _ h => h) (Or.inl ⟨by rfl, ?_⟩) (by assumption) ?_
                    rotate_left
                    · (intro w hSw; (try dsimp only at hSw); go_simp; try with_reducible rfl)
                    try simp only [Act.put, List.setIfInBounds_toArray, List.set_cons_zero, List.set_cons_succ]
                    refine wpAnyH_ready (rs := [18]) (by kernel_rfl) (by simp) ?_
                    refine AllReadyH.cons (o := { dst := some 46, op := Op.buildSlice 54 1 #[(0, Operand.tmp 45)], type := 54, pos := "nets.go:28", after := #[{ on := 17, ground := Ground.data }], guard := none }) rfl (fun K hK => ?_) ?_
                    · go_simp
                      refine hK.out _ _ ?_ (fun hHeld2 => ?_)
                      · exact ⟨keepC (Up.drew (Up.alloc (Up.refl _) _)) hA2, keepC (Up.drew (Up.alloc (Up.refl _) _)) hB1⟩
                      clear hHeld
                      have hHeld := hHeld2
                      clear hHeld2
                      clear hK K
                      try simp only [Act.put, List.setIfInBounds_toArray, List.set_cons_zero, List.set_cons_succ]
                      refine wpAnyH_ready (rs := [19]) (by kernel_rfl) (by simp) ?_
                      refine AllReadyH.cons (o := { dst := some 47, op := Op.call { callee := Callee.builtin Builtin.append, args := #[Operand.tmp 29, Operand.tmp 46], argTypes := #[54, 54] }, type := 54, pos := "nets.go:28", after := #[{ on := 1, ground := Ground.data }, { on := 18, ground := Ground.data }, { on := 13, ground := Ground.chain }], guard := none }) rfl (fun K hK => ?_) ?_
                      · refine step_append_int (wr.alloc (.cells #[.int .i64 z] 3)).drew z wr.heap.size rfl (.tmp 29) (.tmp 46) rfl _ mv ((List.range i).map (valC t ms.data.toList)) rfl (hown.up (Up.drew (Up.alloc (Up.refl _) _))) rfl hcn (by simp; omega) hbs2 ?_
                        intro v4 w4 hown4 hg4 hb4
                        obtain ⟨g4, c4, hv4, _, _⟩ := hown4.is (by simp)
                        rw [List.length_append, List.length_map, List.length_range, List.length_singleton] at hv4
                        subst hv4
                        have hbb : Below W1.heap.size wr w4 := Below.trans (Below.drew (Below.alloc (Below.refl _ _) hszr _)) hb4
                        have hG4 : w4.cell? ⟨G, 2, none⟩ = some mv := (hbb.cell (p := ⟨G, 2, none⟩) hGl).trans hG2
                        have hz4 : w4.frozen? ⟨G, 2, none⟩ = false := (hbb.frozen (p := ⟨G, 2, none⟩) hGl).trans hzG
                        refine hK.out _ _ ?_ (fun hHeld2 => ?_)
                        · exact ⟨(hbb.cell (p := ⟨w.heap.size, 2, none⟩) (by show w.heap.size < _; omega)).trans hA2, (hbb.cell (p := ⟨w.heap.size + 1, 1, none⟩) (by show w.heap.size + 1 < _; omega)).trans hB1⟩
                        clear hHeld
                        have hHeld := hHeld2
                        clear hHeld2
                        clear hK K
                        try simp only [Act.put, List.setIfInBounds_toArray, List.set_cons_zero, List.set_cons_succ]
                        refine wpAnyH_take (i := 20) (oi := { dst := some 48, op := Op.fieldAddr 56 (Operand.tmp 5) 2, type := 0, pos := "nets.go:28", after := #[{ on := 0, ground := Ground.phase }, { on := 1, ground := Ground.phase }, { on := 2, ground := Ground.phase }, { on := 3, ground := Ground.phase }, { on := 4, ground := Ground.phase }, { on := 5, ground := Ground.phase }, { on := 6, ground := Ground.phase }, { on := 7, ground := Ground.phase }, { on := 8, ground := Ground.phase }, { on := 9, ground := Ground.phase }, { on := 10, ground := Ground.phase }, { on := 11, ground := Ground.phase }, { on := 12, ground := Ground.phase }, { on := 13, ground := Ground.phase }, { on := 14, ground := Ground.phase }, { on := 15, ground := Ground.phase }, { on := 16, ground := Ground.phase }, { on := 17, ground := Ground.phase }, { on := 18, ground := Ground.phase }, { on := 19, ground := Ground.phase }], guard := none }) (v := ?_) rfl (by kernel_rfl) (by kernel_rfl) (by kernel_rfl) (fun _ _ _ h => h) (Or.inl ⟨by rfl, ?_⟩) (by assumption) ?_
                        rotate_left
                        · (intro w hSw; (try dsimp only at hSw); go_simp; try with_reducible rfl)
                        try simp only [Act.put, List.setIfInBounds_toArray, List.set_cons_zero, List.set_cons_succ]
                        refine wpAnyH_ready (rs := [21]) (by kernel_rfl) (by simp) ?_
                        refine AllReadyH.cons (o := { dst := none, op := Op.store 54 (Operand.tmp 48) (Operand.tmp 47), type := 0, pos := "nets.go:28", after := #[{ on := 20, ground := Ground.data }, { on := 19, ground := Ground.data }, { on := 19, ground := Ground.chain }, { on := 0, ground := Ground.phase }, { on := 1, ground := Ground.phase }, { on := 2, ground := Ground.phase }, { on := 3, ground := Ground.phase }, { on := 4, ground := Ground.phase }, { on := 5, ground := Ground.phase }, { on := 6, ground := Ground.phase }, { on := 7, ground := Ground.phase }, { on := 8, ground := Ground.phase }, { on := 9, ground := Ground.phase }, { on := 10, ground := Ground.phase }, { on := 11, ground := Ground.phase }, { on := 12, ground := Ground.phase }, { on := 13, ground := Ground.phase }, { on := 14, ground := Ground.phase }, { on := 15, ground := Ground.phase }, { on := 16, ground := Ground.phase }, { on := 17, ground := Ground.phase }, { on := 18, ground := Ground.phase }, { on := 19, ground := Ground.phase }], guard := none }) rfl (fun K hK => ?_) ?_
                        · go_simp
                          refine hK.out _ _ ?_ (fun hHeld2 => ?_)
                          · exact ⟨(far_set (by omega)).trans hHeld.1, (far_set (by omega)).trans hHeld.2⟩
                          clear hHeld
                          have hHeld := hHeld2
                          clear hHeld2
                          clear hK K
                          try simp only [Act.put, List.setIfInBounds_toArray, List.set_cons_zero, List.set_cons_succ]
                          refine wpAnyH_done (by kernel_rfl) ?_ _
                          refine NoPanic.normal ?_
                          clear hG2 hG2a hG4 hz4 hzG hA2 hB1 hHeld
                          go_wp2_with fail
                          go_roundw
                          case rel => exact ⟨i + 1, _, by omega, by go_num, HWr.out.next hbb hGl _, ownsRow_setCell_below (by rw [HR6.out]; exact hown4) hGl _, IsI.put (IsI.below iBr hbb hgbl) hGb _, Below.setCell (Below.trans hur (hbb.mono (by omega))) (by show w.heap.size ≤ G; omega) _, by have := hbb.size; simp; omega⟩
                          case measure => simp [intOf]; omega
                        exact AllReadyH.nil
                      exact AllReadyH.nil
                    exact AllReadyH.nil
                  exact AllReadyH.nil
                exact AllReadyH.nil
              refine AllReadyH.cons (o := { dst := some 34, op := Op.call { callee := Callee.value (Operand.func 64), args := #[Operand.tmp 31, Operand.tmp 33], argTypes := #[9, 3] }, type := 3, pos := "nets.go:28", after := #[{ on := 3, ground := Ground.data }, { on := 5, ground := Ground.data }], guard := none }) rfl (fun K hK => ?_) ?_
              · go_simp
                refine Calls.mono (octet_calls _ _ _ hms (by omega)) ?_
                rintro r w' ⟨rfl, rfl⟩
                rw [HX1.out]
                go_wp2_with fail
                refine hK.out _ _ ?_ (fun hHeld2 => ?_)
                · exact hHeld
                clear hHeld
                have hHeld := hHeld2
                clear hHeld2
                clear hK K
                try simp only [Act.put, List.setIfInBounds_toArray, List.set_cons_zero, List.set_cons_succ]
                refine wpAnyH_take (i := 7) (oi := { dst := some 35, op := Op.binOp BinOp.mul 3 (Operand.const (Value.int IntKind.i64 256)) (Operand.tmp 34) 3, type := 3, pos := "nets.go:28", after := #[{ on := 6, ground := Ground.data }], guard := none }) (v := ?_) rfl (by kernel_rfl) (by kernel_rfl) (by kernel_rfl) (fun _ _ _ h => h) (Or.inl ⟨by rfl, ?_⟩) (by assumption) ?_
                rotate_left
                · (intro w hSw; (try dsimp only at hSw); go_simp; try with_reducible rfl)
                try simp only [Act.put, List.setIfInBounds_toArray, List.set_cons_zero, List.set_cons_succ]
                refine wpAnyH_ready (rs := [1, 13]) (by kernel_rfl) (by simp) ?_
                refine AllReadyH.cons (o := { dst := some 29, op := Op.load 54 (Operand.tmp 28), type := 54, pos := "nets.go:28", after := #[{ on := 0, ground := Ground.data }], guard := none }) rfl (fun K hK => ?_) ?_
                · go_simp
                  refine hK.out _ _ ?_ (fun hHeld2 => ?_)
                  · exact hHeld
                  clear hHeld
                  have hHeld := hHeld2
                  clear hHeld2
                  clear hK K
                  try simp only [Act.put, List.setIfInBounds_toArray, List.set_cons_zero, List.set_cons_succ]
                  refine wpAnyH_ready (rs := [13]) (by kernel_rfl) (by simp) ?_
                  refine AllReadyH.cons (o := { dst := some 41, op := Op.call { callee := Callee.value (Operand.func 64), args := #[Operand.tmp 37, Operand.tmp 40], argTypes := #[9, 3] }, type := 3, pos := "nets.go:28", after := #[{ on := 9, ground := Ground.data }, { on := 12, ground := Ground.data }, { on := 6, ground := Ground.chain }], guard := none }) rfl (fun K hK => ?_) ?_
                  · go_simp
                    refine Calls.mono (octet_calls _ _ _ hms (by omega)) ?_
                    rintro r w' ⟨rfl, rfl⟩
                    rw [HX2.out]
                    go_wp2_with fail
                    refine hK.out _ _ ?_ (fun hHeld2 => ?_)
                    · exact hHeld
                    clear hHeld
                    have hHeld := hHeld2
                    clear hHeld2
                    clear hK K
                    try simp only [Act.put, List.setIfInBounds_toArray, List.set_cons_zero, List.set_cons_succ]
                    refine wpAnyH_take (i := 14) (oi := { dst := some 42, op := Op.binOp BinOp.add 3 (Operand.tmp 35) (Operand.tmp 41) 3, type := 3, pos := "nets.go:28", after := #[{ on := 7, ground := Ground.data }, { on := 13, ground := Ground.data }], guard := none }) (v := ?_) rfl (by kernel_rfl) (by kernel_rfl) (by kernel_rfl) (fun _ _ _ h => h) (Or.inl ⟨by rfl, ?_⟩) (by assumption) ?_
                    rotate_left
                    · (intro w hSw; (try dsimp only at hSw); go_simp; try with_reducible rfl)
                    try simp only [Act.put, List.setIfInBounds_toArray, List.set_cons_zero, List.set_cons_succ]
                    refine wpAnyH_take (i := 17) (oi := { dst := some 45, op := Op.binOp BinOp.rem 3 (Operand.tmp 42) (Operand.tmp 44) 3, type := 3, pos := "nets.go:28", after := #[{ on := 14, ground := Ground.data }, { on := 16, ground := Ground.data }], guard := none }) (v := ?_) rfl (by kernel_rfl) (by kernel_rfl) (by kernel_rfl) (fun _ _ _ h => h) (Or.inl ⟨by rfl, ?_⟩) (by assumption) ?_
                    rotate_left
                    · (intro w hSw; (try dsimp only at hSw); go_simp; try with_reducible rfl)
                    try simp only [Act.put, List.setIfInBounds_toArray, List.set_cons_zero, List.set_cons_succ]
                    refine wpAnyH_ready (rs := [18]) (by kernel_rfl) (by simp) ?_
                    refine AllReadyH.cons (o := { dst := some 46, op := Op.buildSlice 54 1 #[(0, Operand.tmp 45)], type := 54, pos := "nets.go:28", after := #[{ on := 17, ground := Ground.data }], guard := none }) rfl (fun K hK => ?_) ?_
                    · go_simp
                      refine hK.out _ _ ?_ (fun hHeld2 => ?_)
                      · exact ⟨keepC (Up.drew (Up.alloc (Up.refl _) _)) hA2, keepC (Up.drew (Up.alloc (Up.refl _) _)) hB1⟩
                      clear hHeld
                      have hHeld := hHeld2
                      clear hHeld2
                      clear hK K
                      try simp only [Act.put, List.setIfInBounds_toArray, List.set_cons_zero, List.set_cons_succ]
                      refine wpAnyH_ready (rs := [19]) (by kernel_rfl) (by simp) ?_
                      refine AllReadyH.cons (o := { dst := some 47, op := Op.call { callee := Callee.builtin Builtin.append, args := #[Operand.tmp 29, Operand.tmp 46], argTypes := #[54, 54] }, type := 54, pos := "nets.go:28", after := #[{ on := 1, ground := Ground.data }, { on := 18, ground := Ground.data }, { on := 13, ground := Ground.chain }], guard := none }) rfl (fun K hK => ?_) ?_
                      · refine step_append_int (wr.alloc (.cells #[.int .i64 z] 3)).drew z wr.heap.size rfl (.tmp 29) (.tmp 46) rfl _ mv ((List.range i).map (valC t ms.data.toList)) rfl (hown.up (Up.drew (Up.alloc (Up.refl _) _))) rfl hcn (by simp; omega) hbs2 ?_
                        intro v4 w4 hown4 hg4 hb4
                        obtain ⟨g4, c4, hv4, _, _⟩ := hown4.is (by simp)
                        rw [List.length_append, List.length_map, List.length_range, List.length_singleton] at hv4
                        subst hv4
                        have hbb : Below W1.heap.size wr w4 := Below.trans (Below.drew (Below.alloc (Below.refl _ _) hszr _)) hb4
                        have hG4 : w4.cell? ⟨G, 2, none⟩ = some mv := (hbb.cell (p := ⟨G, 2, none⟩) hGl).trans hG2
                        have hz4 : w4.frozen? ⟨G, 2, none⟩ = false := (hbb.frozen (p := ⟨G, 2, none⟩) hGl).trans hzG
                        refine hK.out _ _ ?_ (fun hHeld2 => ?_)
                        · exact ⟨(hbb.cell (p := ⟨w.heap.size, 2, none⟩) (by show w.heap.size < _; omega)).trans hA2, (hbb.cell (p := ⟨w.heap.size + 1, 1, none⟩) (by show w.heap.size + 1 < _; omega)).trans hB1⟩
                        clear hHeld
                        have hHeld := hHeld2
                        clear hHeld2
                        clear hK K
                        try simp only [Act.put, List.setIfInBounds_toArray, List.set_cons_zero, List.set_cons_succ]
                        refine wpAnyH_take (i := 20) (oi := { dst := some 48, op := Op.fieldAddr 56 (Operand.tmp 5) 2, type := 0, pos := "nets.go:28", after := #[{ on := 0, ground := Ground.phase }, { on := 1, ground := Ground.phase }, { on := 2, ground := Ground.phase }, { on := 3, ground := Ground.phase }, { on := 4, ground := Ground.phase }, { on := 5, ground := Ground.phase }, { on := 6, ground := Ground.phase }, { on := 7, ground := Ground.phase }, { on := 8, ground := Ground.phase }, { on := 9, ground := Ground.phase }, { on := 10, ground := Ground.phase }, { on := 11, ground := Ground.phase }, { on := 12, ground := Ground.phase }, { on := 13, ground := Ground.phase }, { on := 14, ground := Ground.phase }, { on := 15, ground := Ground.phase }, { on := 16, ground := Ground.phase }, { on := 17, ground := Ground.phase }, { on := 18, ground := Ground.phase }, { on := 19, ground := Ground.phase }], guard := none }) (v := ?_) rfl (by kernel_rfl) (by kernel_rfl) (by kernel_rfl) (fun _ _ _ h => h) (Or.inl ⟨by rfl, ?_⟩) (by assumption) ?_
                        rotate_left
                        · (intro w hSw; (try dsimp only at hSw); go_simp; try with_reducible rfl)
                        try simp only [Act.put, List.setIfInBounds_toArray, List.set_cons_zero, List.set_cons_succ]
                        refine wpAnyH_ready (rs := [21]) (by kernel_rfl) (by simp) ?_
                        refine AllReadyH.cons (o := { dst := none, op := Op.store 54 (Operand.tmp 48) (Operand.tmp 47), type := 0, pos := "nets.go:28", after := #[{ on := 20, ground := Ground.data }, { on := 19, ground := Ground.data }, { on := 19, ground := Ground.chain }, { on := 0, ground := Ground.phase }, { on := 1, ground := Ground.phase }, { on := 2, ground := Ground.phase }, { on := 3, ground := Ground.phase }, { on := 4, ground := Ground.phase }, { on := 5, ground := Ground.phase }, { on := 6, ground := Ground.phase }, { on := 7, ground := Ground.phase }, { on := 8, ground := Ground.phase }, { on := 9, ground := Ground.phase }, { on := 10, ground := Ground.phase }, { on := 11, ground := Ground.phase }, { on := 12, ground := Ground.phase }, { on := 13, ground := Ground.phase }, { on := 14, ground := Ground.phase }, { on := 15, ground := Ground.phase }, { on := 16, ground := Ground.phase }, { on := 17, ground := Ground.phase }, { on := 18, ground := Ground.phase }, { on := 19, ground := Ground.phase }], guard := none }) rfl (fun K hK => ?_) ?_
                        · go_simp
                          refine hK.out _ _ ?_ (fun hHeld2 => ?_)
                          · exact ⟨(far_set (by omega)).trans hHeld.1, (far_set (by omega)).trans hHeld.2⟩
                          clear hHeld
                          have hHeld := hHeld2
                          clear hHeld2
                          clear hK K
                          try simp only [Act.put, List.setIfInBounds_toArray, List.set_cons_zero, List.set_cons_succ]
                          refine wpAnyH_done (by kernel_rfl) ?_ _
                          refine NoPanic.normal ?_
                          clear hG2 hG2a hG4 hz4 hzG hA2 hB1 hHeld
                          go_wp2_with fail
                          go_roundw
                          case rel => exact ⟨i + 1, _, by omega, by go_num, HWr.out.next hbb hGl _, ownsRow_setCell_below (by rw [HR6.out]; exact hown4) hGl _, IsI.put (IsI.below iBr hbb hgbl) hGb _, Below.setCell (Below.trans hur (hbb.mono (by omega))) (by show w.heap.size ≤ G; omega) _, by have := hbb.size; simp; omega⟩
                          case measure => simp [intOf]; omega
                        exact AllReadyH.nil
                      exact AllReadyH.nil
                    exact AllReadyH.nil
                  exact AllReadyH.nil
                refine AllReadyH.cons (o := { dst := some 41, op := Op.call { callee := Callee.value (Operand.func 64), args := #[Operand.tmp 37, Operand.tmp 40], argTypes := #[9, 3] }, type := 3, pos := "nets.go:28", after := #[{ on := 9, ground := Ground.data }, { on := 12, ground := Ground.data }, { on := 6, ground := Ground.chain }], guard := none }) rfl (fun K hK => ?_) ?_
                · go_simp
                  refine Calls.mono (octet_calls _ _ _ hms (by omega)) ?_
                  rintro r w' ⟨rfl, rfl⟩
                  rw [HX2.out]
                  go_wp2_with fail
                  refine hK.out _ _ ?_ (fun hHeld2 => ?_)
                  · exact hHeld
                  clear hHeld
                  have hHeld := hHeld2
                  clear hHeld2
                  clear hK K
                  try simp only [Act.put, List.setIfInBounds_toArray, List.set_cons_zero, List.set_cons_succ]
                  refine wpAnyH_take (i := 14) (oi := { dst := some 42, op := Op.binOp BinOp.add 3 (Operand.tmp 35) (Operand.tmp 41) 3, type := 3, pos := "nets.go:28", after := #[{ on := 7, ground := Ground.data }, { on := 13, ground := Ground.data }], guard := none }) (v := ?_) rfl (by kernel_rfl) (by kernel_rfl) (by kernel_rfl) (fun _ _ _ h => h) (Or.inl ⟨by rfl, ?_⟩) (by assumption) ?_
                  rotate_left
                  · (intro w hSw; (try dsimp only at hSw); go_simp; try with_reducible rfl)
                  try simp only [Act.put, List.setIfInBounds_toArray, List.set_cons_zero, List.set_cons_succ]
                  refine wpAnyH_take (i := 17) (oi := { dst := some 45, op := Op.binOp BinOp.rem 3 (Operand.tmp 42) (Operand.tmp 44) 3, type := 3, pos := "nets.go:28", after := #[{ on := 14, ground := Ground.data }, { on := 16, ground := Ground.data }], guard := none }) (v := ?_) rfl (by kernel_rfl) (by kernel_rfl) (by kernel_rfl) (fun _ _ _ h => h) (Or.inl ⟨by rfl, ?_⟩) (by assumption) ?_
                  rotate_left
                  · (intro w hSw; (try dsimp only at hSw); go_simp; try with_reducible rfl)
                  try simp only [Act.put, List.setIfInBounds_toArray, List.set_cons_zero, List.set_cons_succ]
                  refine wpAnyH_ready (rs := [1, 18]) (by kernel_rfl) (by simp) ?_
                  refine AllReadyH.cons (o := { dst := some 29, op := Op.load 54 (Operand.tmp 28), type := 54, pos := "nets.go:28", after := #[{ on := 0, ground := Ground.data }], guard := none }) rfl (fun K hK => ?_) ?_
                  · go_simp
                    refine hK.out _ _ ?_ (fun hHeld2 => ?_)
                    · exact hHeld
                    clear hHeld
                    have hHeld := hHeld2
                    clear hHeld2
                    clear hK K
                    try simp only [Act.put, List.setIfInBounds_toArray, List.set_cons_zero, List.set_cons_succ]
                    refine wpAnyH_ready (rs := [18]) (by kernel_rfl) (by simp) ?_
                    refine AllReadyH.cons (o := { dst := some 46, op := Op.buildSlice 54 1 #[(0, Operand.tmp 45)], type := 54, pos := "nets.go:28", after := #[{ on := 17, ground := Ground.data }], guard := none }) rfl (fun K hK => ?_) ?_
                    · go_simp
                      refine hK.out _ _ ?_ (fun hHeld2 => ?_)
                      · exact ⟨keepC (Up.drew (Up.alloc (Up.refl _) _)) hA2, keepC (Up.drew (Up.alloc (Up.refl _) _)) hB1⟩
                      clear hHeld
                      have hHeld := hHeld2
                      clear hHeld2
                      clear hK K
                      try simp only [Act.put, List.setIfInBounds_toArray, List.set_cons_zero, List.set_cons_succ]
                      refine wpAnyH_ready (rs := [19]) (by kernel_rfl) (by simp) ?_
                      refine AllReadyH.cons (o := { dst := some 47, op := Op.call { callee := Callee.builtin Builtin.append, args := #[Operand.tmp 29, Operand.tmp 46], argTypes := #[54, 54] }, type := 54, pos := "nets.go:28", after := #[{ on := 1, ground := Ground.data }, { on := 18, ground := Ground.data }, { on := 13, ground := Ground.chain }], guard := none }) rfl (fun K hK => ?_) ?_
                      · refine step_append_int (wr.alloc (.cells #[.int .i64 z] 3)).drew z wr.heap.size rfl (.tmp 29) (.tmp 46) rfl _ mv ((List.range i).map (valC t ms.data.toList)) rfl (hown.up (Up.drew (Up.alloc (Up.refl _) _))) rfl hcn (by simp; omega) hbs2 ?_
                        intro v4 w4 hown4 hg4 hb4
                        obtain ⟨g4, c4, hv4, _, _⟩ := hown4.is (by simp)
                        rw [List.length_append, List.length_map, List.length_range, List.length_singleton] at hv4
                        subst hv4
                        have hbb : Below W1.heap.size wr w4 := Below.trans (Below.drew (Below.alloc (Below.refl _ _) hszr _)) hb4
                        have hG4 : w4.cell? ⟨G, 2, none⟩ = some mv := (hbb.cell (p := ⟨G, 2, none⟩) hGl).trans hG2
                        have hz4 : w4.frozen? ⟨G, 2, none⟩ = false := (hbb.frozen (p := ⟨G, 2, none⟩) hGl).trans hzG
                        refine hK.out _ _ ?_ (fun hHeld2 => ?_)
                        · exact ⟨(hbb.cell (p := ⟨w.heap.size, 2, none⟩) (by show w.heap.size < _; omega)).trans hA2, (hbb.cell (p := ⟨w.heap.size + 1, 1, none⟩) (by show w.heap.size + 1 < _; omega)).trans hB1⟩
                        clear hHeld
                        have hHeld := hHeld2
                        clear hHeld2
                        clear hK K
                        try simp only [Act.put, List.setIfInBounds_toArray, List.set_cons_zero, List.set_cons_succ]
                        refine wpAnyH_take (i := 20) (oi := { dst := some 48, op := Op.fieldAddr 56 (Operand.tmp 5) 2, type := 0, pos := "nets.go:28", after := #[{ on := 0, ground := Ground.phase }, { on := 1, ground := Ground.phase }, { on := 2, ground := Ground.phase }, { on := 3, ground := Ground.phase }, { on := 4, ground := Ground.phase }, { on := 5, ground := Ground.phase }, { on := 6, ground := Ground.phase }, { on := 7, ground := Ground.phase }, { on := 8, ground := Ground.phase }, { on := 9, ground := Ground.phase }, { on := 10, ground := Ground.phase }, { on := 11, ground := Ground.phase }, { on := 12, ground := Ground.phase }, { on := 13, ground := Ground.phase }, { on := 14, ground := Ground.phase }, { on := 15, ground := Ground.phase }, { on := 16, ground := Ground.phase }, { on := 17, ground := Ground.phase }, { on := 18, ground := Ground.phase }, { on := 19, ground := Ground.phase }], guard := none }) (v := ?_) rfl (by kernel_rfl) (by kernel_rfl) (by kernel_rfl) (fun _ _ _ h => h) (Or.inl ⟨by rfl, ?_⟩) (by assumption) ?_
                        rotate_left
                        · (intro w hSw; (try dsimp only at hSw); go_simp; try with_reducible rfl)
                        try simp only [Act.put, List.setIfInBounds_toArray, List.set_cons_zero, List.set_cons_succ]
                        refine wpAnyH_ready (rs := [21]) (by kernel_rfl) (by simp) ?_
                        refine AllReadyH.cons (o := { dst := none, op := Op.store 54 (Operand.tmp 48) (Operand.tmp 47), type := 0, pos := "nets.go:28", after := #[{ on := 20, ground := Ground.data }, { on := 19, ground := Ground.data }, { on := 19, ground := Ground.chain }, { on := 0, ground := Ground.phase }, { on := 1, ground := Ground.phase }, { on := 2, ground := Ground.phase }, { on := 3, ground := Ground.phase }, { on := 4, ground := Ground.phase }, { on := 5, ground := Ground.phase }, { on := 6, ground := Ground.phase }, { on := 7, ground := Ground.phase }, { on := 8, ground := Ground.phase }, { on := 9, ground := Ground.phase }, { on := 10, ground := Ground.phase }, { on := 11, ground := Ground.phase }, { on := 12, ground := Ground.phase }, { on := 13, ground := Ground.phase }, { on := 14, ground := Ground.phase }, { on := 15, ground := Ground.phase }, { on := 16, ground := Ground.phase }, { on := 17, ground := Ground.phase }, { on := 18, ground := Ground.phase }, { on := 19, ground := Ground.phase }], guard := none }) rfl (fun K hK => ?_) ?_
                        · go_simp
                          refine hK.out _ _ ?_ (fun hHeld2 => ?_)
                          · exact ⟨(far_set (by omega)).trans hHeld.1, (far_set (by omega)).trans hHeld.2⟩
                          clear hHeld
                          have hHeld := hHeld2
                          clear hHeld2
                          clear hK K
                          try simp only [Act.put, List.setIfInBounds_toArray, List.set_cons_zero, List.set_cons_succ]
                          refine wpAnyH_done (by kernel_rfl) ?_ _
                          refine NoPanic.normal ?_
                          clear hG2 hG2a hG4 hz4 hzG hA2 hB1 hHeld
                          go_wp2_with fail
                          go_roundw
                          case rel => exact ⟨i + 1, _, by omega, by go_num, HWr.out.next hbb hGl _, ownsRow_setCell_below (by rw [HR6.out]; exact hown4) hGl _, IsI.put (IsI.below iBr hbb hgbl) hGb _, Below.setCell (Below.trans hur (hbb.mono (by omega))) (by show w.heap.size ≤ G; omega) _, by have := hbb.size; simp; omega⟩
                          case measure => simp [intOf]; omega
                        exact AllReadyH.nil
                      exact AllReadyH.nil
                    exact AllReadyH.nil
                  refine AllReadyH.cons (o := { dst := some 46, op := Op.buildSlice 54 1 #[(0, Operand.tmp 45)], type := 54, pos := "nets.go:28", after := #[{ on := 17, ground := Ground.data }], guard := none }) rfl (fun K hK => ?_) ?_
                  · go_simp
                    refine hK.out _ _ ?_ (fun hHeld2 => ?_)
                    · exact ⟨keepC (Up.drew (Up.alloc (Up.refl _) _)) hA2, keepC (Up.drew (Up.alloc (Up.refl _) _)) hB1⟩
                    clear hHeld
                    have hHeld := hHeld2
                    clear hHeld2
                    clear hK K
                    try simp only [Act.put, List.setIfInBounds_toArray, List.set_cons_zero, List.set_cons_succ]
                    refine wpAnyH_ready (rs := [1]) (by kernel_rfl) (by simp) ?_
                    refine AllReadyH.cons (o := { dst := some 29, op := Op.load 54 (Operand.tmp 28), type := 54, pos := "nets.go:28", after := #[{ on := 0, ground := Ground.data }], guard := none }) rfl (fun K hK => ?_) ?_
                    · go_simp
                      refine hK.out _ _ ?_ (fun hHeld2 => ?_)
                      · exact hHeld
                      clear hHeld
                      have hHeld := hHeld2
                      clear hHeld2
                      clear hK K
                      try simp only [Act.put, List.setIfInBounds_toArray, List.set_cons_zero, List.set_cons_succ]
                      refine wpAnyH_ready (rs := [19]) (by kernel_rfl) (by simp) ?_
                      refine AllReadyH.cons (o := { dst := some 47, op := Op.call { callee := Callee.builtin Builtin.append, args := #[Operand.tmp 29, Operand.tmp 46], argTypes := #[54, 54] }, type := 54, pos := "nets.go:28", after := #[{ on := 1, ground := Ground.data }, { on := 18, ground := Ground.data }, { on := 13, ground := Ground.chain }], guard := none }) rfl (fun K hK => ?_) ?_
                      · refine step_append_int (wr.alloc (.cells #[.int .i64 z] 3)).drew z wr.heap.size rfl (.tmp 29) (.tmp 46) rfl _ mv ((List.range i).map (valC t ms.data.toList)) rfl (hown.up (Up.drew (Up.alloc (Up.refl _) _))) rfl hcn (by simp; omega) hbs2 ?_
                        intro v4 w4 hown4 hg4 hb4
                        obtain ⟨g4, c4, hv4, _, _⟩ := hown4.is (by simp)
                        rw [List.length_append, List.length_map, List.length_range, List.length_singleton] at hv4
                        subst hv4
                        have hbb : Below W1.heap.size wr w4 := Below.trans (Below.drew (Below.alloc (Below.refl _ _) hszr _)) hb4
                        have hG4 : w4.cell? ⟨G, 2, none⟩ = some mv := (hbb.cell (p := ⟨G, 2, none⟩) hGl).trans hG2
                        have hz4 : w4.frozen? ⟨G, 2, none⟩ = false := (hbb.frozen (p := ⟨G, 2, none⟩) hGl).trans hzG
                        refine hK.out _ _ ?_ (fun hHeld2 => ?_)
                        · exact ⟨(hbb.cell (p := ⟨w.heap.size, 2, none⟩) (by show w.heap.size < _; omega)).trans hA2, (hbb.cell (p := ⟨w.heap.size + 1, 1, none⟩) (by show w.heap.size + 1 < _; omega)).trans hB1⟩
                        clear hHeld
                        have hHeld := hHeld2
                        clear hHeld2
                        clear hK K
                        try simp only [Act.put, List.setIfInBounds_toArray, List.set_cons_zero, List.set_cons_succ]
                        refine wpAnyH_take (i := 20) (oi := { dst := some 48, op := Op.fieldAddr 56 (Operand.tmp 5) 2, type := 0, pos := "nets.go:28", after := #[{ on := 0, ground := Ground.phase }, { on := 1, ground := Ground.phase }, { on := 2, ground := Ground.phase }, { on := 3, ground := Ground.phase }, { on := 4, ground := Ground.phase }, { on := 5, ground := Ground.phase }, { on := 6, ground := Ground.phase }, { on := 7, ground := Ground.phase }, { on := 8, ground := Ground.phase }, { on := 9, ground := Ground.phase }, { on := 10, ground := Ground.phase }, { on := 11, ground := Ground.phase }, { on := 12, ground := Ground.phase }, { on := 13, ground := Ground.phase }, { on := 14, ground := Ground.phase }, { on := 15, ground := Ground.phase }, { on := 16, ground := Ground.phase }, { on := 17, ground := Ground.phase }, { on := 18, ground := Ground.phase }, { on := 19, ground := Ground.phase }], guard := none }) (v := ?_) rfl (by kernel_rfl) (by kernel_rfl) (by kernel_rfl) (fun _ _ _ h => h) (Or.inl ⟨by rfl, ?_⟩) (by assumption) ?_
                        rotate_left
                        · (intro w hSw; (try dsimp only at hSw); go_simp; try with_reducible rfl)
                        try simp only [Act.put, List.setIfInBounds_toArray, List.set_cons_zero, List.set_cons_succ]
                        refine wpAnyH_ready (rs := [21]) (by kernel_rfl) (by simp) ?_
                        refine AllReadyH.cons (o := { dst := none, op := Op.store 54 (Operand.tmp 48) (Operand.tmp 47), type := 0, pos := "nets.go:28", after := #[{ on := 20, ground := Ground.data }, { on := 19, ground := Ground.data }, { on := 19, ground := Ground.chain }, { on := 0, ground := Ground.phase }, { on := 1, ground := Ground.phase }, { on := 2, ground := Ground.phase }, { on := 3, ground := Ground.phase }, { on := 4, ground := Ground.phase }, { on := 5, ground := Ground.phase }, { on := 6, ground := Ground.phase }, { on := 7, ground := Ground.phase }, { on := 8, ground := Ground.phase }, { on := 9, ground := Ground.phase }, { on := 10, ground := Ground.phase }, { on := 11, ground := Ground.phase }, { on := 12, ground := Ground.phase }, { on := 13, ground := Ground.phase }, { on := 14, ground := Ground.phase }, { on := 15, ground := Ground.phase }, { on := 16, ground := Ground.phase }, { on := 17, ground := Ground.phase }, { on := 18, ground := Ground.phase }, { on := 19, ground := Ground.phase }], guard := none }) rfl (fun K hK => ?_) ?_
                        · go_simp
                          refine hK.out _ _ ?_ (fun hHeld2 => ?_)
                          · exact ⟨(far_set (by omega)).trans hHeld.1, (far_set (by omega)).trans hHeld.2⟩
                          clear hHeld
                          have hHeld := hHeld2
                          clear hHeld2
                          clear hK K
                          try simp only [Act.put, List.setIfInBounds_toArray, List.set_cons_zero, List.set_cons_succ]
                          refine wpAnyH_done (by kernel_rfl) ?_ _
                          refine NoPanic.normal ?_
                          clear hG2 hG2a hG4 hz4 hzG hA2 hB1 hHeld
                          go_wp2_with fail
                          go_roundw
                          case rel => exact ⟨i + 1, _, by omega, by go_num, HWr.out.next hbb hGl _, ownsRow_setCell_below (by rw [HR6.out]; exact hown4) hGl _, IsI.put (IsI.below iBr hbb hgbl) hGb _, Below.setCell (Below.trans hur (hbb.mono (by omega))) (by show w.heap.size ≤ G; omega) _, by have := hbb.size; simp; omega⟩
                          case measure => simp [intOf]; omega
                        exact AllReadyH.nil
                      exact AllReadyH.nil
                    exact AllReadyH.nil
                  exact AllReadyH.nil
                exact AllReadyH.nil
              exact AllReadyH.nil
            · obtain rfl : i = D := by omega
              have hal : ((List.range i).map (valC t ms.data.toList)).length = i := by simp
              obtain ⟨gm, cm, hmv, hgm, iM⟩ := hown.is (ne_nil_of_length hal (by omega))
              rw [hal] at hmv
              subst hmv
              have iM2 : IsI wr gm (valsI (n / 2 * (n / 2)) t ms.data.toList) := by rw [← HDD.out]; exact iM
              clear hown iM
              have k0 := HWr.out.g0
              have k1 := HWr.out.g1
              have k2 := HWr.out.g2
              have k3 := HWr.out.g3
              have m0 := HWr.out.r0
              have m1 := HWr.out.r1
              have m2 := HWr.out.r2
              have m3 := HWr.out.r3
              have mz := HWr.out.zr
              go_wp2_with fail
              refine bodyPost_ret (v := .agg #[.bool bd, .int .i64 (s : Int), .slice (some ⟨gm, 0, none⟩) i cm, .slice (some ⟨gb, 0, none⟩) n cb]) (by simp [results, Tryz.results16, go_sem, m0, m1, m2, m3]) rfl ⟨s, gm, cm, gb, cb, hs, by rw [HDD.out], by omega, hgbS, ?_, ?_, ?_⟩
              · exact IsI.put (IsI.put (IsI.put (IsI.put iM2 (by omega) _) (by omega) _) (by omega) _) (by omega) _
              · exact IsI.put (IsI.put (IsI.put (IsI.put iBr hgbR _) hgbR _) hgbR _) hgbR _
              · exact (((hur.setCell (by simp; omega) _).setCell (by simp; omega) _).setCell (by simp; omega) _).setCell (by simp; omega) _
        exact AllReadyH.nil
      exact AllReadyH.nil
    refine AllReadyH.cons (o := { dst := some 5, op := Op.alloc 56, type := 0, pos := "nets.go:25", after := #[], guard := none }) rfl (fun K hK => ?_) ?_
    · go_simp
      refine hK.out _ _ ?_ (fun hHeld2 => ?_)
      · go_keep
      clear hHeld
      have hHeld := hHeld2
      clear hHeld2
      clear hK K
      try simp only [Act.put, List.setIfInBounds_toArray, List.set_cons_zero, List.set_cons_succ]
      refine wpAnyH_ready (rs := [8]) (by kernel_rfl) (by simp) ?_
      refine AllReadyH.cons (o := { dst := some 16, op := Op.call { callee := Callee.value (Operand.func 17), args := #[Operand.tmp 13, Operand.tmp 15], argTypes := #[28, 9] }, type := 54, pos := "nets.go:25", after := #[{ on := 5, ground := Ground.data }, { on := 7, ground := Ground.data }, { on := 4, ground := Ground.chain }], guard := none }) rfl (fun K hK => ?_) ?_
      · go_simp
        refine Calls.mono (values_calls n t q b bs _ hbs (by omega) (by omega) (by omega)) ?_
        rintro r w2 ⟨v2, rfl, ho2, hu2⟩
        obtain ⟨gb, cb, rfl, hgb, ib⟩ := ho2.is (ne_nil_of_length (valsI_length _ _ _) (by omega))
        rw [valsI_length]
        clear ho2
        have hu02 : Up W0 w2 := Up.trans (Up.drew (Up.alloc (Up.refl _) _)) hu2
        have hg0 := keepC (p := ⟨W0.heap.size, 0, none⟩) hu2 (by simp; rfl)
        have hg1 := keepC (p := ⟨W0.heap.size, 1, none⟩) hu2 (by simp; rfl)
        have hg2 := keepC (p := ⟨W0.heap.size, 2, none⟩) hu2 (by simp; rfl)
        have hg3 := keepC (p := ⟨W0.heap.size, 3, none⟩) hu2 (by simp; rfl)
        have hzg : ∀ o, w2.frozen? ⟨W0.heap.size, o, none⟩ = false := fun o => frozen_up hu2 (by simp; rfl) (by simp)
        go_wp2_with fail
        refine hK.out _ _ ?_ (fun hHeld2 => ?_)
        · exact keepC7 hu2 hHeld
        clear hHeld
        have hHeld := hHeld2
        clear hHeld2
        clear hK K
        try simp only [Act.put, List.setIfInBounds_toArray, List.set_cons_zero, List.set_cons_succ]
        refine wpAnyH_take (i := 9) (oi := { dst := some 17, op := Op.build 56 #[(0, Operand.tmp 9), (1, Operand.tmp 12), (3, Operand.tmp 16)], type := 56, pos := "nets.go:25", after := #[{ on := 1, ground := Ground.data }, { on := 4, ground := Ground.data }, { on := 8, ground := Ground.data }], guard := none }) (v := ?_) rfl (by kernel_rfl) (by kernel_rfl) (by kernel_rfl) (fun _ _ _ h => h) (Or.inl ⟨by rfl, ?_⟩) (by assumption) ?_
        rotate_left
        · (intro w hSw; (try dsimp only at hSw); go_simp; try with_reducible rfl)
        try simp only [Act.put, List.setIfInBounds_toArray, List.set_cons_zero, List.set_cons_succ]
        refine wpAnyH_ready (rs := [11]) (by kernel_rfl) (by simp) ?_
        refine AllReadyH.cons (o := { dst := none, op := Op.store 56 (Operand.tmp 5) (Operand.tmp 17), type := 0, pos := "nets.go:25", after := #[{ on := 10, ground := Ground.data }, { on := 9, ground := Ground.data }, { on := 8, ground := Ground.chain }, { on := 0, ground := Ground.phase }, { on := 1, ground := Ground.phase }, { on := 2, ground := Ground.phase }, { on := 3, ground := Ground.phase }, { on := 4, ground := Ground.phase }, { on := 5, ground := Ground.phase }, { on := 6, ground := Ground.phase }, { on := 7, ground := Ground.phase }, { on := 8, ground := Ground.phase }, { on := 9, ground := Ground.phase }, { on := 10, ground := Ground.phase }], guard := none }) rfl (fun K hK => ?_) ?_
        · go_simp
          refine hK.out _ _ ?_ (fun hHeld2 => ?_)
          · exact keepG (by have := HSz.out; omega) (by have := HSz.out; omega) hHeld
          clear hHeld
          have hHeld := hHeld2
          clear hHeld2
          clear hK K
          try simp only [Act.put, List.setIfInBounds_toArray, List.set_cons_zero, List.set_cons_succ]
          refine wpAnyH_done (by kernel_rfl) ?_ _
          refine NoPanic.normal ?_
          obtain ⟨W1, hW1⟩ : ∃ W, W = (((w2.setCell ⟨W0.heap.size, 0, none⟩ (.bool bd)).setCell ⟨W0.heap.size, 1, none⟩ (.int .i64 (s : Int))).setCell ⟨W0.heap.size, 2, none⟩ (.slice none 0 0)).setCell ⟨W0.heap.size, 3, none⟩ (.slice (some ⟨gb, 0, none⟩) n cb) := ⟨_, rfl⟩
          obtain ⟨G, hG⟩ : ∃ G, G = W0.heap.size := ⟨_, rfl⟩
          have hGb0 : W0.heap.size ≠ gb := by simp at hgb; omega
          have HWk : Hid (WkAt W1 w.heap.size G n t bd s ms (.slice none 0 0) (.slice (some ⟨gb, 0, none⟩) n cb)) := by rw [hW1, hG]; exact wkB HSz.out hu02 hg0 hg1 hg2 hg3 hzg HR.out.1 hB0 hB1 HR.out.2.1 HR.out.2.2.1 HR.out.2.2.2.1 HR.out.2.2.2.2.1 HR.out.2.2.2.2.2
          have hU1 : Up w W1 := by rw [hW1]; exact ((((huW.trans hu02).setCell (by simp; have := HSz.out; omega) _).setCell (by simp; have := HSz.out; omega) _).setCell (by simp; have := HSz.out; omega) _).setCell (by simp; have := HSz.out; omega) _
          have hIB : IsI W1 gb (valsI n t bs.data.toList) := by rw [hW1]; exact IsI.put (IsI.put (IsI.put (IsI.put ib hGb0 _) hGb0 _) hGb0 _) hGb0 _
          have hGb : G ≠ gb := by rw [hG]; exact hGb0
          have hGl : G < W1.heap.size := by rw [hW1, hG]; have := World.block_lt_of_cell? w2 ⟨W0.heap.size, 0, none⟩ hg0; simpa using this
          have hgbl := hIB.1
          have hgbR : w.heap.size + 1 + 1 ≠ gb := by have := HSz.out; simp at hgb; omega
          have hgbS : w.heap.size ≤ gb := by have := HSz.out; simp at hgb; omega
          have hltS := HWk.out.lt
          have hP0 := HWk.out.b0
          rw [← hW1, ← hG]
          clear hW1 hG hHeld hu2 hu02 ib hgb hGb0 hA0 hA1 hA3 hB0 hB1 hB2 hB3 huW
          clear hg0 hg1 hg2 hg3 hzg
          go_wp2_with fail
          clear hP0
          rw [HDI.out]
          obtain ⟨d, hd⟩ : ∃ d, d = n / 2 := ⟨_, rfl⟩
          rw [← hd]
          have hd8 : d ≤ 8 := by omega
          have hd2 : 2 ≤ d := by omega
          have hDD : d * d ≤ 8 * 8 := Nat.mul_le_mul hd8 hd8
          have hDD2 : 2 * 2 ≤ d * d := Nat.mul_le_mul hd2 hd2
          obtain ⟨D, hD⟩ : ∃ D, D = d * d := ⟨_, rfl⟩
          rw [← hD] at hDD hDD2
          have HDD : Hid (D = n / 2 * (n / 2)) := show _ = _ by rw [hD, hd]
          have e0 : IntKind.i64.wrap ((d : Int) * (d : Int)) = (D : Int) := by rw [hD, Int.natCast_mul]; exact IntWalk.i64_in _ (by rw [← Int.natCast_mul, ← hD]; omega)
          clear hD hd
          go_loopw [7] (fun si wr => ∃ (i : Nat) (mv : Value), i ≤ D ∧ si = .int .i64 (i : Int) ∧ Hid (WkAt wr w.heap.size G n t bd s ms mv (.slice (some ⟨gb, 0, none⟩) n cb)) ∧ OwnI wr W1.heap.size mv ((List.range i).map (valC t ms.data.toList)) ∧ IsI wr gb (valsI n t bs.data.toList) ∧ Up w wr ∧ W1.heap.size ≤ wr.heap.size) (fun si _ => D - (intOf si).toNat)
          case atStart => exact ⟨0, _, Nat.zero_le _, rfl, HWk.out, World.ownsRow_nil _ _ _ _, hIB, hU1, Nat.le_refl _⟩
          case round =>
            obtain ⟨i, mv, hi, rfl, HWr, hown, iBr, hur, hszr⟩ := hrel
            by_cases hlt : i < D
            · have hA2 := HWr.out.a2
              have hB1 := HWr.out.b1
              have hG2 := HWr.out.g2
              have hzG := HWr.out.zg 2
              have c1 : (i : Int) < (D : Int) := by omega
              have hb1 := byteL_lt ms.data.toList (2 * i)
              have hb2 := byteL_lt ms.data.toList (2 * i + 1)
              have HR6 : Hid ((List.range (i + 1)).map (valC t ms.data.toList) = (List.range i).map (valC t ms.data.toList) ++ [(256 * (byteL ms.data.toList (2 * i) : Int) + (byteL ms.data.toList (2 * i + 1) : Int)) % (t : Int)]) := map_range_succ _ _
              have HX1 : Hid (byteL ms.data.toList (2 * (i : Int)).toNat = byteL ms.data.toList (2 * i)) := show _ = _ by rw [show (2 * (i : Int)).toNat = 2 * i by omega]
              have HX2 : Hid (byteL ms.data.toList (2 * (i : Int) + 1).toNat = byteL ms.data.toList (2 * i + 1)) := show _ = _ by rw [show (2 * (i : Int) + 1).toNat = 2 * i + 1 by omega]
              generalize byteL ms.data.toList (2 * i) = x at hb1 HR6 HX1
              generalize byteL ms.data.toList (2 * i + 1) = y at hb2 HR6 HX2
              have e1 : IntKind.i64.wrap (2 * (i : Int)) = 2 * (i : Int) := IntWalk.i64_in _ (by omega)
              have e2 : IntKind.i64.wrap (2 * (i : Int) + 1) = 2 * (i : Int) + 1 := IntWalk.i64_in _ (by omega)
              have e3 : IntKind.i64.wrap (256 * (x : Int)) = 256 * (x : Int) := IntWalk.i64_in _ (by omega)
              have e4 : IntKind.i64.wrap (256 * (x : Int) + (y : Int)) = 256 * (x : Int) + (y : Int) := IntWalk.i64_in _ (by omega)
              have e5 : (256 * (x : Int) + (y : Int)).tmod (t : Int) = (256 * (x : Int) + (y : Int)) % (t : Int) := Int.tmod_eq_emod_of_nonneg (by omega)
              generalize (256 * (x : Int) + (y : Int)) % (t : Int) = z at e5 HR6
              have et1 : ¬ (t : Int) = 0 := by omega
              have et2 : ¬ t = 0 := by omega
              have et0 : ((t : Int) == 0) = false := beq_eq_false_iff_ne.2 et1
              have hcn : (wr.alloc (.cells #[.int .i64 z] 3)).drew.cell? ⟨wr.heap.size, 0, none⟩ = some (.int .i64 z) := by simp
              have hG2a : (wr.alloc (.cells #[.int .i64 z] 3)).drew.cell? ⟨G, 2, none⟩ = some mv := keepC (Up.drew (Up.alloc (Up.refl wr) (.cells #[.int .i64 z] 3))) hG2
              have hbs2 := Nat.le_trans hszr (Up.drew (Up.alloc (Up.refl wr) (.cells #[.int .i64 z] 3))).size
              go_wp2_with fail
              refine wp_region_noPanic ?_
              refine wp_region_held_drew (S := (fun w' => w'.cell? ⟨w.heap.size, 2, none⟩ = some (.string ms) ∧ w'.cell? ⟨w.heap.size + 1, 1, none⟩ = some (.int .i64 (t : Int)))) (by kernel_rfl) ?_ (fun hHeld => ?_)
              · exact ⟨hA2, hB1⟩
              refine wpAnyH_take (i := 0) (oi := { dst := some 28, op := Op.fieldAddr 56 (Operand.tmp 5) 2, type := 0, pos := "nets.go:28", after := #[], guard := none }) (v := ?_) rfl (by kernel_rfl) (by kernel_rfl) (by kernel_rfl) (fun _ _ _ h => h) (Or.inl ⟨by rfl, ?_⟩) (by assumption) ?_
              rotate_left
              · (intro w hSw; (try dsimp only at hSw); go_simp; try with_reducible rfl)
              try simp only [Act.put, List.setIfInBounds_toArray, List.set_cons_zero, List.set_cons_succ]
              refine wpAnyH_take (i := 2) (oi := { dst := some 30, op := Op.fieldAddr 58 (Operand.tmp 2) 2, type := 0, pos := "nets.go:28", after := #[], guard := none }) (v := ?_) rfl (by kernel_rfl) (by kernel_rfl) (by kernel_rfl) (fun _ _ _ h => h) (Or.inl ⟨by rfl, ?_⟩) (by assumption) ?_
              rotate_left
              · (intro w hSw; (try dsimp only at hSw); go_simp; try with_reducible rfl)
              try simp only [Act.put, List.setIfInBounds_toArray, List.set_cons_zero, List.set_cons_succ]
              refine wpAnyH_take (i := 3) (oi := { dst := some 31, op := Op.load 9 (Operand.tmp 30), type := 9, pos := "nets.go:28", after := #[{ on := 2, ground := Ground.data }], guard := none }) (v := ?_) rfl (by kernel_rfl) (by kernel_rfl) (by kernel_rfl) (fun _ _ _ h => h) (Or.inl ⟨by rfl, ?_⟩) (by assumption) ?_
              rotate_left
              · (intro w hSw; (try dsimp only at hSw); go_simp; try with_reducible rfl)
              try simp only [Act.put, List.setIfInBounds_toArray, List.set_cons_zero, List.set_cons_succ]
              refine wpAnyH_take (i := 4) (oi := { dst := some 32, op := Op.move (Operand.tmp 7), type := 3, pos := "nets.go:28", after := #[], guard := none }) (v := ?_) rfl (by kernel_rfl) (by kernel_rfl) (by kernel_rfl) (fun _ _ _ h => h) (Or.inl ⟨by rfl, ?_⟩) (by assumption) ?_
              rotate_left
              · (intro w hSw; (try dsimp only at hSw); go_simp; try with_reducible rfl)
              try simp only [Act.put, List.setIfInBounds_toArray, List.set_cons_zero, List.set_cons_succ]
              refine wpAnyH_take (i := 5) (oi := { dst := some 33, op := Op.binOp BinOp.mul 3 (Operand.const (Value.int IntKind.i64 2)) (Operand.tmp 32) 3, type := 3, pos := "nets.go:28", after := #[{ on := 4, ground := Ground.data }], guard := none }) (v := ?_) rfl (by kernel_rfl) (by kernel_rfl) (by kernel_rfl) (fun _ _ _ h => h) (Or.inl ⟨by rfl, ?_⟩) (by assumption) ?_
              rotate_left
              · (intro w hSw; (try dsimp only at hSw); go_simp; try with_reducible rfl)
              try simp only [Act.put, List.setIfInBounds_toArray, List.set_cons_zero, List.set_cons_succ]
              refine wpAnyH_take (i := 8) (oi := { dst := some 36, op := Op.fieldAddr 58 (Operand.tmp 2) 2, type := 0, pos := "nets.go:28", after := #[], guard := none }) (v := ?_) rfl (by kernel_rfl) (by kernel_rfl) (by kernel_rfl) (fun _ _ _ h => h) (Or.inl ⟨by rfl, ?_⟩) (by assumption) ?_
              rotate_left
              · (intro w hSw; (try dsimp only at hSw); go_simp; try with_reducible rfl)
              try simp only [Act.put, List.setIfInBounds_toArray, List.set_cons_zero, List.set_cons_succ]
              refine wpAnyH_take (i := 9) (oi := { dst := some 37, op := Op.load 9 (Operand.tmp 36), type := 9, pos := "nets.go:28", after := #[{ on := 8, ground := Ground.data }], guard := none }) (v := ?_) rfl (by kernel_rfl) (by kernel_rfl) (by kernel_rfl) (fun _ _ _ h => h) (Or.inl ⟨by rfl, ?_⟩) (by assumption) ?_
              rotate_left
              · (intro w hSw; (try dsimp only at hSw); go_simp; try with_reducible rfl)
              try simp only [Act.put, List.setIfInBounds_toArray, List.set_cons_zero, List.set_cons_succ]
              refine wpAnyH_take (i := 10) (oi := { dst := some 38, op := Op.move (Operand.tmp 7), type := 3, pos := "nets.go:28", after := #[], guard := none }) (v := ?_) rfl (by kernel_rfl) (by kernel_rfl) (by kernel_rfl) (fun _ _ _ h => h) (Or.inl ⟨by rfl, ?_⟩) (by assumption) ?_
              rotate_left
              · (intro w hSw; (try dsimp only at hSw); go_simp; try with_reducible rfl)
              try simp only [Act.put, List.setIfInBounds_toArray, List.set_cons_zero, List.set_cons_succ]
              refine wpAnyH_take (i := 11) (oi := { dst := some 39, op := Op.binOp BinOp.mul 3 (Operand.const (Value.int IntKind.i64 2)) (Operand.tmp 38) 3, type := 3, pos := "nets.go:28", after := #[{ on := 10, ground := Ground.data }], guard := none }) (v := ?_) rfl (by kernel_rfl) (by kernel_rfl) (by kernel_rfl) (fun _ _ _ h => h) (Or.inl ⟨by rfl, ?_⟩) (by assumption) ?_
              rotate_left
              · (intro w hSw; (try dsimp only at hSw); go_simp; try with_reducible rfl)
              try simp only [Act.put, List.setIfInBounds_toArray, List.set_cons_zero, List.set_cons_succ]
              refine wpAnyH_take (i := 12) (oi := { dst := some 40, op := Op.binOp BinOp.add 3 (Operand.tmp 39) (Operand.const (Value.int IntKind.i64 1)) 3, type := 3, pos := "nets.go:28", after := #[{ on := 11, ground := Ground.data }], guard := none }) (v := ?_) rfl (by kernel_rfl) (by kernel_rfl) (by kernel_rfl) (fun _ _ _ h => h) (Or.inl ⟨by rfl, ?_⟩) (by assumption) ?_
              rotate_left
              · (intro w hSw; (try dsimp only at hSw); go_simp; try with_reducible rfl)
              try simp only [Act.put, List.setIfInBounds_toArray, List.set_cons_zero, List.set_cons_succ]
              refine wpAnyH_take (i := 15) (oi := { dst := some 43, op := Op.fieldAddr 28 (Operand.tmp 3) 1, type := 0, pos := "nets.go:28", after := #[], guard := none }) (v := ?_) rfl (by kernel_rfl) (by kernel_rfl) (by kernel_rfl) (fun _ _ _ h => h) (Or.inl ⟨by rfl, ?_⟩) (by assumption) ?_
              rotate_left
              · (intro w hSw; (try dsimp only at hSw); go_simp; try with_reducible rfl)
              try simp only [Act.put, List.setIfInBounds_toArray, List.set_cons_zero, List.set_cons_succ]
              refine wpAnyH_take (i := 16) (oi := { dst := some 44, op := Op.load 3 (Operand.tmp 43), type := 3, pos := "nets.go:28", after := #[{ on := 15, ground := Ground.data }], guard := none }) (v := ?_) rfl (by kernel_rfl) (by kernel_rfl) (by kernel_rfl) (fun _ _ _ h => h) (Or.inl ⟨by rfl, ?_⟩) (by assumption) ?_
              rotate_left
              · (intro w hSw; (try dsimp only at hSw); go_simp; try with_reducible rfl)
              try simp only [Act.put, List.setIfInBounds_toArray, List.set_cons_zero, List.set_cons_succ]
              refine wpAnyH_ready (rs := [1, 6]) (by kernel_rfl) (by simp) ?_
              refine AllReadyH.cons (o := { dst := some 29, op := Op.load 54 (Operand.tmp 28), type := 54, pos := "nets.go:28", after := #[{ on := 0, ground := Ground.data }], guard := none }) rfl (fun K hK => ?_) ?_
              · go_simp
                refine hK.out _ _ ?_ (fun hHeld2 => ?_)
                · exact hHeld
                clear hHeld
                have hHeld := hHeld2
                clear hHeld2
                clear hK K
                try simp only [Act.put, List.setIfInBounds_toArray, List.set_cons_zero, List.set_cons_succ]
                refine wpAnyH_ready (rs := [6]) (by kernel_rfl) (by simp) ?_
                refine AllReadyH.cons (o := { dst := some 34, op := Op.call { callee := Callee.value (Operand.func 64), args := #[Operand.tmp 31, Operand.tmp 33], argTypes := #[9, 3] }, type := 3, pos := "nets.go:28", after := #[{ on := 3, ground := Ground.data }, { on := 5, ground := Ground.data }], guard := none }) rfl (fun K hK => ?_) ?_
                · go_simp
                  refine Calls.mono (octet_calls _ _ _ hms (by omega)) ?_
                  rintro r w' ⟨rfl, rfl⟩
                  rw [HX1.out]
                  go_wp2_with fail
                  refine hK.out _ _ ?_ (fun hHeld2 => ?_)
                  · exact hHeld
                  clear hHeld
                  have hHeld := hHeld2
                  clear hHeld2
                  clear hK K
                  try simp only [Act.put, List.setIfInBounds_toArray, List.set_cons_zero, List.set_cons_succ]
                  refine wpAnyH_take (i := 7) (oi := { dst := some 35, op := Op.binOp BinOp.mul 3 (Operand.const (Value.int IntKind.i64 256)) (Operand.tmp 34) 3, type := 3, pos := "nets.go:28", after := #[{ on := 6, ground := Ground.data }], guard := none }) (v := ?_) rfl (by kernel_rfl) (by kernel_rfl) (by kernel_rfl) (fun _ _ _ h => h) (Or.inl ⟨by rfl, ?_⟩) (by assumption) ?_
                  rotate_left
                  · (intro w hSw; (try dsimp only at hSw); go_simp; try with_reducible rfl)
                  try simp only [Act.put, List.setIfInBounds_toArray, List.set_cons_zero, List.set_cons_succ]
                  refine wpAnyH_ready (rs := [13]) (by kernel_rfl) (by simp) ?_
                  refine AllReadyH.cons (o := { dst := some 41, op := Op.call { callee := Callee.value (Operand.func 64), args := #[Operand.tmp 37, Operand.tmp 40], argTypes := #[9, 3] }, type := 3, pos := "nets.go:28", after := #[{ on := 9, ground := Ground.data }, { on := 12, ground := Ground.data }, { on := 6, ground := Ground.chain }], guard := none }) rfl (fun K hK => ?_) ?_
                  · go_simp
                    refine Calls.mono (octet_calls _ _ _ hms (by omega)) ?_
                    rintro r w' ⟨rfl, rfl⟩
                    rw [HX2.out]
                    go_wp2_with fail
                    refine hK.out _ _ ?_ (fun hHeld2 => ?_)
                    · exact hHeld
                    clear hHeld
                    have hHeld := hHeld2
                    clear hHeld2
                    clear hK K
                    try simp only [Act.put, List.setIfInBounds_toArray, List.set_cons_zero, List.set_cons_succ]
                    refine wpAnyH_take (i := 14) (oi := { dst := some 42, op := Op.binOp BinOp.add 3 (Operand.tmp 35) (Operand.tmp 41) 3, type := 3, pos := "nets.go:28", after := #[{ on := 7, ground := Ground.data }, { on := 13, ground := Ground.data }], guard := none }) (v := ?_) rfl (by kernel_rfl) (by kernel_rfl) (by kernel_rfl) (fun _ _ _ h => h) (Or.inl ⟨by rfl, ?_⟩) (by assumption) ?_
                    rotate_left
                    · (intro w hSw; (try dsimp only at hSw); go_simp; try with_reducible rfl)
                    try simp only [Act.put, List.setIfInBounds_toArray, List.set_cons_zero, List.set_cons_succ]
                    refine wpAnyH_take (i := 17) (oi := { dst := some 45, op := Op.binOp BinOp.rem 3 (Operand.tmp 42) (Operand.tmp 44) 3, type := 3, pos := "nets.go:28", after := #[{ on := 14, ground := Ground.data }, { on := 16, ground := Ground.data }], guard := none }) (v := ?_) rfl (by kernel_rfl) (by kernel_rfl) (by kernel_rfl) (fun _ _ _ h => h) (Or.inl ⟨by rfl, ?_⟩) (by assumption) ?_
                    rotate_left
                    · (intro w hSw; (try dsimp only at hSw); go_simp; try with_reducible rfl)
                    try simp only [Act.put, List.setIfInBounds_toArray, List.set_cons_zero, List.set_cons_succ]
                    refine wpAnyH_ready (rs := [18]) (by kernel_rfl) (by simp) ?_
                    refine AllReadyH.cons (o := { dst := some 46, op := Op.buildSlice 54 1 #[(0, Operand.tmp 45)], type := 54, pos := "nets.go:28", after := #[{ on := 17, ground := Ground.data }], guard := none }) rfl (fun K hK => ?_) ?_
                    · go_simp
                      refine hK.out _ _ ?_ (fun hHeld2 => ?_)
                      · exact ⟨keepC (Up.drew (Up.alloc (Up.refl _) _)) hA2, keepC (Up.drew (Up.alloc (Up.refl _) _)) hB1⟩
                      clear hHeld
                      have hHeld := hHeld2
                      clear hHeld2
                      clear hK K
                      try simp only [Act.put, List.setIfInBounds_toArray, List.set_cons_zero, List.set_cons_succ]
                      refine wpAnyH_ready (rs := [19]) (by kernel_rfl) (by simp) ?_
                      refine AllReadyH.cons (o := { dst := some 47, op := Op.call { callee := Callee.builtin Builtin.append, args := #[Operand.tmp 29, Operand.tmp 46], argTypes := #[54, 54] }, type := 54, pos := "nets.go:28", after := #[{ on := 1, ground := Ground.data }, { on := 18, ground := Ground.data }, { on := 13, ground := Ground.chain }], guard := none }) rfl (fun K hK => ?_) ?_
                      · refine step_append_int (wr.alloc (.cells #[.int .i64 z] 3)).drew z wr.heap.size rfl (.tmp 29) (.tmp 46) rfl _ mv ((List.range i).map (valC t ms.data.toList)) rfl (hown.up (Up.drew (Up.alloc (Up.refl _) _))) rfl hcn (by simp; omega) hbs2 ?_
                        intro v4 w4 hown4 hg4 hb4
                        obtain ⟨g4, c4, hv4, _, _⟩ := hown4.is (by simp)
                        rw [List.length_append, List.length_map, List.length_range, List.length_singleton] at hv4
                        subst hv4
                        have hbb : Below W1.heap.size wr w4 := Below.trans (Below.drew (Below.alloc (Below.refl _ _) hszr _)) hb4
                        have hG4 : w4.cell? ⟨G, 2, none⟩ = some mv := (hbb.cell (p := ⟨G, 2, none⟩) hGl).trans hG2
                        have hz4 : w4.frozen? ⟨G, 2, none⟩ = false := (hbb.frozen (p := ⟨G, 2, none⟩) hGl).trans hzG
                        refine hK.out _ _ ?_ (fun hHeld2 => ?_)
                        · exact ⟨(hbb.cell (p := ⟨w.heap.size, 2, none⟩) (by show w.heap.size < _; omega)).trans hA2, (hbb.cell (p := ⟨w.heap.size + 1, 1, none⟩) (by show w.heap.size + 1 < _; omega)).trans hB1⟩
                        clear hHeld
                        have hHeld := hHeld2
                        clear hHeld2
                        clear hK K
                        try simp only [Act.put, List.setIfInBounds_toArray, List.set_cons_zero, List.set_cons_succ]
                        refine wpAnyH_take (i := 20) (oi := { dst := some 48, op := Op.fieldAddr 56 (Operand.tmp 5) 2, type := 0, pos := "nets.go:28", after := #[{ on := 0, ground := Ground.phase }, { on := 1, ground := Ground.phase }, { on := 2, ground := Ground.phase }, { on := 3, ground := Ground.phase }, { on := 4, ground := Ground.phase }, { on := 5, ground := Ground.phase }, { on := 6, ground := Ground.phase }, { on := 7, ground := Ground.phase }, { on := 8, ground := Ground.phase }, { on := 9, ground := Ground.phase }, { on := 10, ground := Ground.phase }, { on := 11, ground := Ground.phase }, { on := 12, ground := Ground.phase }, { on := 13, ground := Ground.phase }, { on := 14, ground := Ground.phase }, { on := 15, ground := Ground.phase }, { on := 16, ground := Ground.phase }, { on := 17, ground := Ground.phase }, { on := 18, ground := Ground.phase }, { on := 19, ground := Ground.phase }], guard := none }) (v := ?_) rfl (by kernel_rfl) (by kernel_rfl) (by kernel_rfl) (fun _ _ _ h => h) (Or.inl ⟨by rfl, ?_⟩) (by assumption) ?_
                        rotate_left
                        · (intro w hSw; (try dsimp only at hSw); go_simp; try with_reducible rfl)
                        try simp only [Act.put, List.setIfInBounds_toArray, List.set_cons_zero, List.set_cons_succ]
                        refine wpAnyH_ready (rs := [21]) (by kernel_rfl) (by simp) ?_
                        refine AllReadyH.cons (o := { dst := none, op := Op.store 54 (Operand.tmp 48) (Operand.tmp 47), type := 0, pos := "nets.go:28", after := #[{ on := 20, ground := Ground.data }, { on := 19, ground := Ground.data }, { on := 19, ground := Ground.chain }, { on := 0, ground := Ground.phase }, { on := 1, ground := Ground.phase }, { on := 2, ground := Ground.phase }, { on := 3, ground := Ground.phase }, { on := 4, ground := Ground.phase }, { on := 5, ground := Ground.phase }, { on := 6, ground := Ground.phase }, { on := 7, ground := Ground.phase }, { on := 8, ground := Ground.phase }, { on := 9, ground := Ground.phase }, { on := 10, ground := Ground.phase }, { on := 11, ground := Ground.phase }, { on := 12, ground := Ground.phase }, { on := 13, ground := Ground.phase }, { on := 14, ground := Ground.phase }, { on := 15, ground := Ground.phase }, { on := 16, ground := Ground.phase }, { on := 17, ground := Ground.phase }, { on := 18, ground := Ground.phase }, { on := 19, ground := Ground.phase }], guard := none }) rfl (fun K hK => ?_) ?_
                        · go_simp
                          refine hK.out _ _ ?_ (fun hHeld2 => ?_)
                          · exact ⟨(far_set (by omega)).trans hHeld.1, (far_set (by omega)).trans hHeld.2⟩
                          clear hHeld
                          have hHeld := hHeld2
                          clear hHeld2
                          clear hK K
                          try simp only [Act.put, List.setIfInBounds_toArray, List.set_cons_zero, List.set_cons_succ]
                          refine wpAnyH_done (by kernel_rfl) ?_ _
                          refine NoPanic.normal ?_
                          clear hG2 hG2a hG4 hz4 hzG hA2 hB1 hHeld
                          go_wp2_with fail
                          go_roundw
                          case rel => exact ⟨i + 1, _, by omega, by go_num, HWr.out.next hbb hGl _, ownsRow_setCell_below (by rw [HR6.out]; exact hown4) hGl _, IsI.put (IsI.below iBr hbb hgbl) hGb _, Below.setCell (Below.trans hur (hbb.mono (by omega))) (by show w.heap.size ≤ G; omega) _, by have := hbb.size; simp; omega⟩
                          case measure => simp [intOf]; omega
                        exact AllReadyH.nil
                      exact AllReadyH.nil
                    exact AllReadyH.nil
                  exact AllReadyH.nil
                exact AllReadyH.nil
              refine AllReadyH.cons (o := { dst := some 34, op := Op.call { callee := Callee.value (Operand.func 64), args := #[Operand.tmp 31, Operand.tmp 33], argTypes := #[9, 3] }, type := 3, pos := "nets.go:28", after := #[{ on := 3, ground := Ground.data }, { on := 5, ground := Ground.data }], guard := none }) rfl (fun K hK => ?_) ?_
              · go_simp
                refine Calls.mono (octet_calls _ _ _ hms (by omega)) ?_
                rintro r w' ⟨rfl, rfl⟩
                rw [HX1.out]
                go_wp2_with fail
                refine hK.out _ _ ?_ (fun hHeld2 => ?_)
                · exact hHeld
                clear hHeld
                have hHeld := hHeld2
                clear hHeld2
                clear hK K
                try simp only [Act.put, List.setIfInBounds_toArray, List.set_cons_zero, List.set_cons_succ]
                refine wpAnyH_take (i := 7) (oi := { dst := some 35, op := Op.binOp BinOp.mul 3 (Operand.const (Value.int IntKind.i64 256)) (Operand.tmp 34) 3, type := 3, pos := "nets.go:28", after := #[{ on := 6, ground := Ground.data }], guard := none }) (v := ?_) rfl (by kernel_rfl) (by kernel_rfl) (by kernel_rfl) (fun _ _ _ h => h) (Or.inl ⟨by rfl, ?_⟩) (by assumption) ?_
                rotate_left
                · (intro w hSw; (try dsimp only at hSw); go_simp; try with_reducible rfl)
                try simp only [Act.put, List.setIfInBounds_toArray, List.set_cons_zero, List.set_cons_succ]
                refine wpAnyH_ready (rs := [1, 13]) (by kernel_rfl) (by simp) ?_
                refine AllReadyH.cons (o := { dst := some 29, op := Op.load 54 (Operand.tmp 28), type := 54, pos := "nets.go:28", after := #[{ on := 0, ground := Ground.data }], guard := none }) rfl (fun K hK => ?_) ?_
                · go_simp
                  refine hK.out _ _ ?_ (fun hHeld2 => ?_)
                  · exact hHeld
                  clear hHeld
                  have hHeld := hHeld2
                  clear hHeld2
                  clear hK K
                  try simp only [Act.put, List.setIfInBounds_toArray, List.set_cons_zero, List.set_cons_succ]
                  refine wpAnyH_ready (rs := [13]) (by kernel_rfl) (by simp) ?_
                  refine AllReadyH.cons (o := { dst := some 41, op := Op.call { callee := Callee.value (Operand.func 64), args := #[Operand.tmp 37, Operand.tmp 40], argTypes := #[9, 3] }, type := 3, pos := "nets.go:28", after := #[{ on := 9, ground := Ground.data }, { on := 12, ground := Ground.data }, { on := 6, ground := Ground.chain }], guard := none }) rfl (fun K hK => ?_) ?_
                  · go_simp
                    refine Calls.mono (octet_calls _ _ _ hms (by omega)) ?_
                    rintro r w' ⟨rfl, rfl⟩
                    rw [HX2.out]
                    go_wp2_with fail
                    refine hK.out _ _ ?_ (fun hHeld2 => ?_)
                    · exact hHeld
                    clear hHeld
                    have hHeld := hHeld2
                    clear hHeld2
                    clear hK K
                    try simp only [Act.put, List.setIfInBounds_toArray, List.set_cons_zero, List.set_cons_succ]
                    refine wpAnyH_take (i := 14) (oi := { dst := some 42, op := Op.binOp BinOp.add 3 (Operand.tmp 35) (Operand.tmp 41) 3, type := 3, pos := "nets.go:28", after := #[{ on := 7, ground := Ground.data }, { on := 13, ground := Ground.data }], guard := none }) (v := ?_) rfl (by kernel_rfl) (by kernel_rfl) (by kernel_rfl) (fun _ _ _ h => h) (Or.inl ⟨by rfl, ?_⟩) (by assumption) ?_
                    rotate_left
                    · (intro w hSw; (try dsimp only at hSw); go_simp; try with_reducible rfl)
                    try simp only [Act.put, List.setIfInBounds_toArray, List.set_cons_zero, List.set_cons_succ]
                    refine wpAnyH_take (i := 17) (oi := { dst := some 45, op := Op.binOp BinOp.rem 3 (Operand.tmp 42) (Operand.tmp 44) 3, type := 3, pos := "nets.go:28", after := #[{ on := 14, ground := Ground.data }, { on := 16, ground := Ground.data }], guard := none }) (v := ?_) rfl (by kernel_rfl) (by kernel_rfl) (by kernel_rfl) (fun _ _ _ h => h) (Or.inl ⟨by rfl, ?_⟩) (by assumption) ?_
                    rotate_left
                    · (intro w hSw; (try dsimp only at hSw); go_simp; try with_reducible rfl)
                    try simp only [Act.put, List.setIfInBounds_toArray, List.set_cons_zero, List.set_cons_succ]
                    refine wpAnyH_ready (rs := [18]) (by kernel_rfl) (by simp) ?_
                    refine AllReadyH.cons (o := { dst := some 46, op := Op.buildSlice 54 1 #[(0, Operand.tmp 45)], type := 54, pos := "nets.go:28", after := #[{ on := 17, ground := Ground.data }], guard := none }) rfl (fun K hK => ?_) ?_
                    · go_simp
                      refine hK.out _ _ ?_ (fun hHeld2 => ?_)
                      · exact ⟨keepC (Up.drew (Up.alloc (Up.refl _) _)) hA2, keepC (Up.drew (Up.alloc (Up.refl _) _)) hB1⟩
                      clear hHeld
                      have hHeld := hHeld2
                      clear hHeld2
                      clear hK K
                      try simp only [Act.put, List.setIfInBounds_toArray, List.set_cons_zero, List.set_cons_succ]
                      refine wpAnyH_ready (rs := [19]) (by kernel_rfl) (by simp) ?_
                      refine AllReadyH.cons (o := { dst := some 47, op := Op.call { callee := Callee.builtin Builtin.append, args := #[Operand.tmp 29, Operand.tmp 46], argTypes := #[54, 54] }, type := 54, pos := "nets.go:28", after := #[{ on := 1, ground := Ground.data }, { on := 18, ground := Ground.data }, { on := 13, ground := Ground.chain }], guard := none }) rfl (fun K hK => ?_) ?_
                      · refine step_append_int (wr.alloc (.cells #[.int .i64 z] 3)).drew z wr.heap.size rfl (.tmp 29) (.tmp 46) rfl _ mv ((List.range i).map (valC t ms.data.toList)) rfl (hown.up (Up.drew (Up.alloc (Up.refl _) _))) rfl hcn (by simp; omega) hbs2 ?_
                        intro v4 w4 hown4 hg4 hb4
                        obtain ⟨g4, c4, hv4, _, _⟩ := hown4.is (by simp)
                        rw [List.length_append, List.length_map, List.length_range, List.length_singleton] at hv4
                        subst hv4
                        have hbb : Below W1.heap.size wr w4 := Below.trans (Below.drew (Below.alloc (Below.refl _ _) hszr _)) hb4
                        have hG4 : w4.cell? ⟨G, 2, none⟩ = some mv := (hbb.cell (p := ⟨G, 2, none⟩) hGl).trans hG2
                        have hz4 : w4.frozen? ⟨G, 2, none⟩ = false := (hbb.frozen (p := ⟨G, 2, none⟩) hGl).trans hzG
                        refine hK.out _ _ ?_ (fun hHeld2 => ?_)
                        · exact ⟨(hbb.cell (p := ⟨w.heap.size, 2, none⟩) (by show w.heap.size < _; omega)).trans hA2, (hbb.cell (p := ⟨w.heap.size + 1, 1, none⟩) (by show w.heap.size + 1 < _; omega)).trans hB1⟩
                        clear hHeld
                        have hHeld := hHeld2
                        clear hHeld2
                        clear hK K
                        try simp only [Act.put, List.setIfInBounds_toArray, List.set_cons_zero, List.set_cons_succ]
                        refine wpAnyH_take (i := 20) (oi := { dst := some 48, op := Op.fieldAddr 56 (Operand.tmp 5) 2, type := 0, pos := "nets.go:28", after := #[{ on := 0, ground := Ground.phase }, { on := 1, ground := Ground.phase }, { on := 2, ground := Ground.phase }, { on := 3, ground := Ground.phase }, { on := 4, ground := Ground.phase }, { on := 5, ground := Ground.phase }, { on := 6, ground := Ground.phase }, { on := 7, ground := Ground.phase }, { on := 8, ground := Ground.phase }, { on := 9, ground := Ground.phase }, { on := 10, ground := Ground.phase }, { on := 11, ground := Ground.phase }, { on := 12, ground := Ground.phase }, { on := 13, ground := Ground.phase }, { on := 14, ground := Ground.phase }, { on := 15, ground := Ground.phase }, { on := 16, ground := Ground.phase }, { on := 17, ground := Ground.phase }, { on := 18, ground := Ground.phase }, { on := 19, ground := Ground.phase }], guard := none }) (v := ?_) rfl (by kernel_rfl) (by kernel_rfl) (by kernel_rfl) (fun _ _ _ h => h) (Or.inl ⟨by rfl, ?_⟩) (by assumption) ?_
                        rotate_left
                        · (intro w hSw; (try dsimp only at hSw); go_simp; try with_reducible rfl)
                        try simp only [Act.put, List.setIfInBounds_toArray, List.set_cons_zero, List.set_cons_succ]
                        refine wpAnyH_ready (rs := [21]) (by kernel_rfl) (by simp) ?_
                        refine AllReadyH.cons (o := { dst := none, op := Op.store 54 (Operand.tmp 48) (Operand.tmp 47), type := 0, pos := "nets.go:28", after := #[{ on := 20, ground := Ground.data }, { on := 19, ground := Ground.data }, { on := 19, ground := Ground.chain }, { on := 0, ground := Ground.phase }, { on := 1, ground := Ground.phase }, { on := 2, ground := Ground.phase }, { on := 3, ground := Ground.phase }, { on := 4, ground := Ground.phase }, { on := 5, ground := Ground.phase }, { on := 6, ground := Ground.phase }, { on := 7, ground := Ground.phase }, { on := 8, ground := Ground.phase }, { on := 9, ground := Ground.phase }, { on := 10, ground := Ground.phase }, { on := 11, ground := Ground.phase }, { on := 12, ground := Ground.phase }, { on := 13, ground := Ground.phase }, { on := 14, ground := Ground.phase }, { on := 15, ground := Ground.phase }, { on := 16, ground := Ground.phase }, { on := 17, ground := Ground.phase }, { on := 18, ground := Ground.phase }, { on := 19, ground := Ground.phase }], guard := none }) rfl (fun K hK => ?_) ?_
                        · go_simp
                          refine hK.out _ _ ?_ (fun hHeld2 => ?_)
                          · exact ⟨(far_set (by omega)).trans hHeld.1, (far_set (by omega)).trans hHeld.2⟩
                          clear hHeld
                          have hHeld := hHeld2
                          clear hHeld2
                          clear hK K
                          try simp only [Act.put, List.setIfInBounds_toArray, List.set_cons_zero, List.set_cons_succ]
                          refine wpAnyH_done (by kernel_rfl) ?_ _
                          refine NoPanic.normal ?_
                          clear hG2 hG2a hG4 hz4 hzG hA2 hB1 hHeld
                          go_wp2_with fail
                          go_roundw
                          case rel => exact ⟨i + 1, _, by omega, by go_num, HWr.out.next hbb hGl _, ownsRow_setCell_below (by rw [HR6.out]; exact hown4) hGl _, IsI.put (IsI.below iBr hbb hgbl) hGb _, Below.setCell (Below.trans hur (hbb.mono (by omega))) (by show w.heap.size ≤ G; omega) _, by have := hbb.size; simp; omega⟩
                          case measure => simp [intOf]; omega
                        exact AllReadyH.nil
                      exact AllReadyH.nil
                    exact AllReadyH.nil
                  exact AllReadyH.nil
                refine AllReadyH.cons (o := { dst := some 41, op := Op.call { callee := Callee.value (Operand.func 64), args := #[Operand.tmp 37, Operand.tmp 40], argTypes := #[9, 3] }, type := 3, pos := "nets.go:28", after := #[{ on := 9, ground := Ground.data }, { on := 12, ground := Ground.data }, { on := 6, ground := Ground.chain }], guard := none }) rfl (fun K hK => ?_) ?_
                · go_simp
                  refine Calls.mono (octet_calls _ _ _ hms (by omega)) ?_
                  rintro r w' ⟨rfl, rfl⟩
                  rw [HX2.out]
                  go_wp2_with fail
                  refine hK.out _ _ ?_ (fun hHeld2 => ?_)
                  · exact hHeld
                  clear hHeld
                  have hHeld := hHeld2
                  clear hHeld2
                  clear hK K
                  try simp only [Act.put, List.setIfInBounds_toArray, List.set_cons_zero, List.set_cons_succ]
                  refine wpAnyH_take (i := 14) (oi := { dst := some 42, op := Op.binOp BinOp.add 3 (Operand.tmp 35) (Operand.tmp 41) 3, type := 3, pos := "nets.go:28", after := #[{ on := 7, ground := Ground.data }, { on := 13, ground := Ground.data }], guard := none }) (v := ?_) rfl (by kernel_rfl) (by kernel_rfl) (by kernel_rfl) (fun _ _ _ h => h) (Or.inl ⟨by rfl, ?_⟩) (by assumption) ?_
                  rotate_left
                  · (intro w hSw; (try dsimp only at hSw); go_simp; try with_reducible rfl)
                  try simp only [Act.put, List.setIfInBounds_toArray, List.set_cons_zero, List.set_cons_succ]
                  refine wpAnyH_take (i := 17) (oi := { dst := some 45, op := Op.binOp BinOp.rem 3 (Operand.tmp 42) (Operand.tmp 44) 3, type := 3, pos := "nets.go:28", after := #[{ on := 14, ground := Ground.data }, { on := 16, ground := Ground.data }], guard := none }) (v := ?_) rfl (by kernel_rfl) (by kernel_rfl) (by kernel_rfl) (fun _ _ _ h => h) (Or.inl ⟨by rfl, ?_⟩) (by assumption) ?_
                  rotate_left
                  · (intro w hSw; (try dsimp only at hSw); go_simp; try with_reducible rfl)
                  try simp only [Act.put, List.setIfInBounds_toArray, List.set_cons_zero, List.set_cons_succ]
                  refine wpAnyH_ready (rs := [1, 18]) (by kernel_rfl) (by simp) ?_
                  refine AllReadyH.cons (o := { dst := some 29, op := Op.load 54 (Operand.tmp 28), type := 54, pos := "nets.go:28", after := #[{ on := 0, ground := Ground.data }], guard := none }) rfl (fun K hK => ?_) ?_
                  · go_simp
                    refine hK.out _ _ ?_ (fun hHeld2 => ?_)
                    · exact hHeld
                    clear hHeld
                    have hHeld := hHeld2
                    clear hHeld2
                    clear hK K
                    try simp only [Act.put, List.setIfInBounds_toArray, List.set_cons_zero, List.set_cons_succ]
                    refine wpAnyH_ready (rs := [18]) (by kernel_rfl) (by simp) ?_
                    refine AllReadyH.cons (o := { dst := some 46, op := Op.buildSlice 54 1 #[(0, Operand.tmp 45)], type := 54, pos := "nets.go:28", after := #[{ on := 17, ground := Ground.data }], guard := none }) rfl (fun K hK => ?_) ?_
                    · go_simp
                      refine hK.out _ _ ?_ (fun hHeld2 => ?_)
                      · exact ⟨keepC (Up.drew (Up.alloc (Up.refl _) _)) hA2, keepC (Up.drew (Up.alloc (Up.refl _) _)) hB1⟩
                      clear hHeld
                      have hHeld := hHeld2
                      clear hHeld2
                      clear hK K
                      try simp only [Act.put, List.setIfInBounds_toArray, List.set_cons_zero, List.set_cons_succ]
                      refine wpAnyH_ready (rs := [19]) (by kernel_rfl) (by simp) ?_
                      refine AllReadyH.cons (o := { dst := some 47, op := Op.call { callee := Callee.builtin Builtin.append, args := #[Operand.tmp 29, Operand.tmp 46], argTypes := #[54, 54] }, type := 54, pos := "nets.go:28", after := #[{ on := 1, ground := Ground.data }, { on := 18, ground := Ground.data }, { on := 13, ground := Ground.chain }], guard := none }) rfl (fun K hK => ?_) ?_
                      · refine step_append_int (wr.alloc (.cells #[.int .i64 z] 3)).drew z wr.heap.size rfl (.tmp 29) (.tmp 46) rfl _ mv ((List.range i).map (valC t ms.data.toList)) rfl (hown.up (Up.drew (Up.alloc (Up.refl _) _))) rfl hcn (by simp; omega) hbs2 ?_
                        intro v4 w4 hown4 hg4 hb4
                        obtain ⟨g4, c4, hv4, _, _⟩ := hown4.is (by simp)
                        rw [List.length_append, List.length_map, List.length_range, List.length_singleton] at hv4
                        subst hv4
                        have hbb : Below W1.heap.size wr w4 := Below.trans (Below.drew (Below.alloc (Below.refl _ _) hszr _)) hb4
                        have hG4 : w4.cell? ⟨G, 2, none⟩ = some mv := (hbb.cell (p := ⟨G, 2, none⟩) hGl).trans hG2
                        have hz4 : w4.frozen? ⟨G, 2, none⟩ = false := (hbb.frozen (p := ⟨G, 2, none⟩) hGl).trans hzG
                        refine hK.out _ _ ?_ (fun hHeld2 => ?_)
                        · exact ⟨(hbb.cell (p := ⟨w.heap.size, 2, none⟩) (by show w.heap.size < _; omega)).trans hA2, (hbb.cell (p := ⟨w.heap.size + 1, 1, none⟩) (by show w.heap.size + 1 < _; omega)).trans hB1⟩
                        clear hHeld
                        have hHeld := hHeld2
                        clear hHeld2
                        clear hK K
                        try simp only [Act.put, List.setIfInBounds_toArray, List.set_cons_zero, List.set_cons_succ]
                        refine wpAnyH_take (i := 20) (oi := { dst := some 48, op := Op.fieldAddr 56 (Operand.tmp 5) 2, type := 0, pos := "nets.go:28", after := #[{ on := 0, ground := Ground.phase }, { on := 1, ground := Ground.phase }, { on := 2, ground := Ground.phase }, { on := 3, ground := Ground.phase }, { on := 4, ground := Ground.phase }, { on := 5, ground := Ground.phase }, { on := 6, ground := Ground.phase }, { on := 7, ground := Ground.phase }, { on := 8, ground := Ground.phase }, { on := 9, ground := Ground.phase }, { on := 10, ground := Ground.phase }, { on := 11, ground := Ground.phase }, { on := 12, ground := Ground.phase }, { on := 13, ground := Ground.phase }, { on := 14, ground := Ground.phase }, { on := 15, ground := Ground.phase }, { on := 16, ground := Ground.phase }, { on := 17, ground := Ground.phase }, { on := 18, ground := Ground.phase }, { on := 19, ground := Ground.phase }], guard := none }) (v := ?_) rfl (by kernel_rfl) (by kernel_rfl) (by kernel_rfl) (fun _ _ _ h => h) (Or.inl ⟨by rfl, ?_⟩) (by assumption) ?_
                        rotate_left
                        · (intro w hSw; (try dsimp only at hSw); go_simp; try with_reducible rfl)
                        try simp only [Act.put, List.setIfInBounds_toArray, List.set_cons_zero, List.set_cons_succ]
                        refine wpAnyH_ready (rs := [21]) (by kernel_rfl) (by simp) ?_
                        refine AllReadyH.cons (o := { dst := none, op := Op.store 54 (Operand.tmp 48) (Operand.tmp 47), type := 0, pos := "nets.go:28", after := #[{ on := 20, ground := Ground.data }, { on := 19, ground := Ground.data }, { on := 19, ground := Ground.chain }, { on := 0, ground := Ground.phase }, { on := 1, ground := Ground.phase }, { on := 2, ground := Ground.phase }, { on := 3, ground := Ground.phase }, { on := 4, ground := Ground.phase }, { on := 5, ground := Ground.phase }, { on := 6, ground := Ground.phase }, { on := 7, ground := Ground.phase }, { on := 8, ground := Ground.phase }, { on := 9, ground := Ground.phase }, { on := 10, ground := Ground.phase }, { on := 11, ground := Ground.phase }, { on := 12, ground := Ground.phase }, { on := 13, ground := Ground.phase }, { on := 14, ground := Ground.phase }, { on := 15, ground := Ground.phase }, { on := 16, ground := Ground.phase }, { on := 17, ground := Ground.phase }, { on := 18, ground := Ground.phase }, { on := 19, ground := Ground.phase }], guard := none }) rfl (fun K hK => ?_) ?_
                        · go_simp
                          refine hK.out _ _ ?_ (fun hHeld2 => ?_)
                          · exact ⟨(far_set (by omega)).trans hHeld.1, (far_set (by omega)).trans hHeld.2⟩
                          clear hHeld
                          have hHeld := hHeld2
                          clear hHeld2
                          clear hK K
                          try simp only [Act.put, List.setIfInBounds_toArray, List.set_cons_zero, List.set_cons_succ]
                          refine wpAnyH_done (by kernel_rfl) ?_ _
                          refine NoPanic.normal ?_
                          clear hG2 hG2a hG4 hz4 hzG hA2 hB1 hHeld
                          go_wp2_with fail
                          go_roundw
                          case rel => exact ⟨i + 1, _, by omega, by go_num, HWr.out.next hbb hGl _, ownsRow_setCell_below (by rw [HR6.out]; exact hown4) hGl _, IsI.put (IsI.below iBr hbb hgbl) hGb _, Below.setCell (Below.trans hur (hbb.mono (by omega))) (by show w.heap.size ≤ G; omega) _, by have := hbb.size; simp; omega⟩
                          case measure => simp [intOf]; omega
                        exact AllReadyH.nil
                      exact AllReadyH.nil
                    exact AllReadyH.nil
                  refine AllReadyH.cons (o := { dst := some 46, op := Op.buildSlice 54 1 #[(0, Operand.tmp 45)], type := 54, pos := "nets.go:28", after := #[{ on := 17, ground := Ground.data }], guard := none }) rfl (fun K hK => ?_) ?_
                  · go_simp
                    refine hK.out _ _ ?_ (fun hHeld2 => ?_)
                    · exact ⟨keepC (Up.drew (Up.alloc (Up.refl _) _)) hA2, keepC (Up.drew (Up.alloc (Up.refl _) _)) hB1⟩
                    clear hHeld
                    have hHeld := hHeld2
                    clear hHeld2
                    clear hK K
                    try simp only [Act.put, List.setIfInBounds_toArray, List.set_cons_zero, List.set_cons_succ]
                    refine wpAnyH_ready (rs := [1]) (by kernel_rfl) (by simp) ?_
                    refine AllReadyH.cons (o := { dst := some 29, op := Op.load 54 (Operand.tmp 28), type := 54, pos := "nets.go:28", after := #[{ on := 0, ground := Ground.data }], guard := none }) rfl (fun K hK => ?_) ?_
                    · go_simp
                      refine hK.out _ _ ?_ (fun hHeld2 => ?_)
                      · exact hHeld
                      clear hHeld
                      have hHeld := hHeld2
                      clear hHeld2
                      clear hK K
                      try simp only [Act.put, List.setIfInBounds_toArray, List.set_cons_zero, List.set_cons_succ]
                      refine wpAnyH_ready (rs := [19]) (by kernel_rfl) (by simp) ?_
                      refine AllReadyH.cons (o := { dst := some 47, op := Op.call { callee := Callee.builtin Builtin.append, args := #[Operand.tmp 29, Operand.tmp 46], argTypes := #[54, 54] }, type := 54, pos := "nets.go:28", after := #[{ on := 1, ground := Ground.data }, { on := 18, ground := Ground.data }, { on := 13, ground := Ground.chain }], guard := none }) rfl (fun K hK => ?_) ?_
                      · refine step_append_int (wr.alloc (.cells #[.int .i64 z] 3)).drew z wr.heap.size rfl (.tmp 29) (.tmp 46) rfl _ mv ((List.range i).map (valC t ms.data.toList)) rfl (hown.up (Up.drew (Up.alloc (Up.refl _) _))) rfl hcn (by simp; omega) hbs2 ?_
                        intro v4 w4 hown4 hg4 hb4
                        obtain ⟨g4, c4, hv4, _, _⟩ := hown4.is (by simp)
                        rw [List.length_append, List.length_map, List.length_range, List.length_singleton] at hv4
                        subst hv4
                        have hbb : Below W1.heap.size wr w4 := Below.trans (Below.drew (Below.alloc (Below.refl _ _) hszr _)) hb4
                        have hG4 : w4.cell? ⟨G, 2, none⟩ = some mv := (hbb.cell (p := ⟨G, 2, none⟩) hGl).trans hG2
                        have hz4 : w4.frozen? ⟨G, 2, none⟩ = false := (hbb.frozen (p := ⟨G, 2, none⟩) hGl).trans hzG
                        refine hK.out _ _ ?_ (fun hHeld2 => ?_)
                        · exact ⟨(hbb.cell (p := ⟨w.heap.size, 2, none⟩) (by show w.heap.size < _; omega)).trans hA2, (hbb.cell (p := ⟨w.heap.size + 1, 1, none⟩) (by show w.heap.size + 1 < _; omega)).trans hB1⟩
                        clear hHeld
                        have hHeld := hHeld2
                        clear hHeld2
                        clear hK K
                        try simp only [Act.put, List.setIfInBounds_toArray, List.set_cons_zero, List.set_cons_succ]
                        refine wpAnyH_take (i := 20) (oi := { dst := some 48, op := Op.fieldAddr 56 (Operand.tmp 5) 2, type := 0, pos := "nets.go:28", after := #[{ on := 0, ground := Ground.phase }, { on := 1, ground := Ground.phase }, { on := 2, ground := Ground.phase }, { on := 3, ground := Ground.phase }, { on := 4, ground := Ground.phase }, { on := 5, ground := Ground.phase }, { on := 6, ground := Ground.phase }, { on := 7, ground := Ground.phase }, { on := 8, ground := Ground.phase }, { on := 9, ground := Ground.phase }, { on := 10, ground := Ground.phase }, { on := 11, ground := Ground.phase }, { on := 12, ground := Ground.phase }, { on := 13, ground := Ground.phase }, { on := 14, ground := Ground.phase }, { on := 15, ground := Ground.phase }, { on := 16, ground := Ground.phase }, { on := 17, ground := Ground.phase }, { on := 18, ground := Ground.phase }, { on := 19, ground := Ground.phase }], guard := none }) (v := ?_) rfl (by kernel_rfl) (by kernel_rfl) (by kernel_rfl) (fun _ _ _ h => h) (Or.inl ⟨by rfl, ?_⟩) (by assumption) ?_
                        rotate_left
                        · (intro w hSw; (try dsimp only at hSw); go_simp; try with_reducible rfl)
                        try simp only [Act.put, List.setIfInBounds_toArray, List.set_cons_zero, List.set_cons_succ]
                        refine wpAnyH_ready (rs := [21]) (by kernel_rfl) (by simp) ?_
                        refine AllReadyH.cons (o := { dst := none, op := Op.store 54 (Operand.tmp 48) (Operand.tmp 47), type := 0, pos := "nets.go:28", after := #[{ on := 20, ground := Ground.data }, { on := 19, ground := Ground.data }, { on := 19, ground := Ground.chain }, { on := 0, ground := Ground.phase }, { on := 1, ground := Ground.phase }, { on := 2, ground := Ground.phase }, { on := 3, ground := Ground.phase }, { on := 4, ground := Ground.phase }, { on := 5, ground := Ground.phase }, { on := 6, ground := Ground.phase }, { on := 7, ground := Ground.phase }, { on := 8, ground := Ground.phase }, { on := 9, ground := Ground.phase }, { on := 10, ground := Ground.phase }, { on := 11, ground := Ground.phase }, { on := 12, ground := Ground.phase }, { on := 13, ground := Ground.phase }, { on := 14, ground := Ground.phase }, { on := 15, ground := Ground.phase }, { on := 16, ground := Ground.phase }, { on := 17, ground := Ground.phase }, { on := 18, ground := Ground.phase }, { on := 19, ground := Ground.phase }], guard := none }) rfl (fun K hK => ?_) ?_
                        · go_simp
                          refine hK.out _ _ ?_ (fun hHeld2 => ?_)
                          · exact ⟨(far_set (by omega)).trans hHeld.1, (far_set (by omega)).trans hHeld.2⟩
                          clear hHeld
                          have hHeld := hHeld2
                          clear hHeld2
                          clear hK K
                          try simp only [Act.put, List.setIfInBounds_toArray, List.set_cons_zero, List.set_cons_succ]
                          refine wpAnyH_done (by kernel_rfl) ?_ _
                          refine NoPanic.normal ?_
                          clear hG2 hG2a hG4 hz4 hzG hA2 hB1 hHeld
                          go_wp2_with fail
                          go_roundw
                          case rel => exact ⟨i + 1, _, by omega, by go_num, HWr.out.next hbb hGl _, ownsRow_setCell_below (by rw [HR6.out]; exact hown4) hGl _, IsI.put (IsI.below iBr hbb hgbl) hGb _, Below.setCell (Below.trans hur (hbb.mono (by omega))) (by show w.heap.size ≤ G; omega) _, by have := hbb.size; simp; omega⟩
                          case measure => simp [intOf]; omega
                        exact AllReadyH.nil
                      exact AllReadyH.nil
                    exact AllReadyH.nil
                  exact AllReadyH.nil
                exact AllReadyH.nil
              exact AllReadyH.nil
            · obtain rfl : i = D := by omega
              have hal : ((List.range i).map (valC t ms.data.toList)).length = i := by simp
              obtain ⟨gm, cm, hmv, hgm, iM⟩ := hown.is (ne_nil_of_length hal (by omega))
              rw [hal] at hmv
              subst hmv
              have iM2 : IsI wr gm (valsI (n / 2 * (n / 2)) t ms.data.toList) := by rw [← HDD.out]; exact iM
              clear hown iM
              have k0 := HWr.out.g0
              have k1 := HWr.out.g1
              have k2 := HWr.out.g2
              have k3 := HWr.out.g3
              have m0 := HWr.out.r0
              have m1 := HWr.out.r1
              have m2 := HWr.out.r2
              have m3 := HWr.out.r3
              have mz := HWr.out.zr
              go_wp2_with fail
              refine bodyPost_ret (v := .agg #[.bool bd, .int .i64 (s : Int), .slice (some ⟨gm, 0, none⟩) i cm, .slice (some ⟨gb, 0, none⟩) n cb]) (by simp [results, Tryz.results16, go_sem, m0, m1, m2, m3]) rfl ⟨s, gm, cm, gb, cb, hs, by rw [HDD.out], by omega, hgbS, ?_, ?_, ?_⟩
              · exact IsI.put (IsI.put (IsI.put (IsI.put iM2 (by omega) _) (by omega) _) (by omega) _) (by omega) _
              · exact IsI.put (IsI.put (IsI.put (IsI.put iBr hgbR _) hgbR _) hgbR _) hgbR _
              · exact (((hur.setCell (by simp; omega) _).setCell (by simp; omega) _).setCell (by simp; omega) _).setCell (by simp; omega) _
        exact AllReadyH.nil
      exact AllReadyH.nil
    exact AllReadyH.nil
  refine AllReadyH.cons (o := { dst := some 5, op := Op.alloc 56, type := 0, pos := "nets.go:25", after := #[], guard := none }) rfl (fun K hK => ?_) ?_
  · go_simp
    refine hK.out _ _ ?_ (fun hHeld2 => ?_)
    · go_keep
    clear hHeld
    have hHeld := hHeld2
    clear hHeld2
    clear hK K
    try simp only [Act.put, List.setIfInBounds_toArray, List.set_cons_zero, List.set_cons_succ]
    refine wpAnyH_ready (rs := [4]) (by kernel_rfl) (by simp) ?_
    refine AllReadyH.cons (o := { dst := some 12, op := Op.call { callee := Callee.value (Operand.func 63), args := #[Operand.tmp 11, Operand.const (Value.int IntKind.i64 8)], argTypes := #[3, 3] }, type := 3, pos := "nets.go:25", after := #[{ on := 3, ground := Ground.data }], guard := none }) rfl (fun K hK => ?_) ?_
    · go_simp
      refine Calls.mono (keepPick_calls sh 8 _ hsh hsh2 (by omega) (by omega)) ?_
      rintro r w' ⟨s, hs, rfl, rfl⟩
      go_wp2_with fail
      refine hK.out _ _ ?_ (fun hHeld2 => ?_)
      · exact hHeld
      clear hHeld
      have hHeld := hHeld2
      clear hHeld2
      clear hK K
      try simp only [Act.put, List.setIfInBounds_toArray, List.set_cons_zero, List.set_cons_succ]
      refine wpAnyH_ready (rs := [8]) (by kernel_rfl) (by simp) ?_
      refine AllReadyH.cons (o := { dst := some 16, op := Op.call { callee := Callee.value (Operand.func 17), args := #[Operand.tmp 13, Operand.tmp 15], argTypes := #[28, 9] }, type := 54, pos := "nets.go:25", after := #[{ on := 5, ground := Ground.data }, { on := 7, ground := Ground.data }, { on := 4, ground := Ground.chain }], guard := none }) rfl (fun K hK => ?_) ?_
      · go_simp
        refine Calls.mono (values_calls n t q b bs _ hbs (by omega) (by omega) (by omega)) ?_
        rintro r w2 ⟨v2, rfl, ho2, hu2⟩
        obtain ⟨gb, cb, rfl, hgb, ib⟩ := ho2.is (ne_nil_of_length (valsI_length _ _ _) (by omega))
        rw [valsI_length]
        clear ho2
        have hu02 : Up W0 w2 := Up.trans (Up.drew (Up.alloc (Up.refl _) _)) hu2
        have hg0 := keepC (p := ⟨W0.heap.size, 0, none⟩) hu2 (by simp; rfl)
        have hg1 := keepC (p := ⟨W0.heap.size, 1, none⟩) hu2 (by simp; rfl)
        have hg2 := keepC (p := ⟨W0.heap.size, 2, none⟩) hu2 (by simp; rfl)
        have hg3 := keepC (p := ⟨W0.heap.size, 3, none⟩) hu2 (by simp; rfl)
        have hzg : ∀ o, w2.frozen? ⟨W0.heap.size, o, none⟩ = false := fun o => frozen_up hu2 (by simp; rfl) (by simp)
        go_wp2_with fail
        refine hK.out _ _ ?_ (fun hHeld2 => ?_)
        · exact keepC7 hu2 hHeld
        clear hHeld
        have hHeld := hHeld2
        clear hHeld2
        clear hK K
        try simp only [Act.put, List.setIfInBounds_toArray, List.set_cons_zero, List.set_cons_succ]
        refine wpAnyH_take (i := 9) (oi := { dst := some 17, op := Op.build 56 #[(0, Operand.tmp 9), (1, Operand.tmp 12), (3, Operand.tmp 16)], type := 56, pos := "nets.go:25", after := #[{ on := 1, ground := Ground.data }, { on := 4, ground := Ground.data }, { on := 8, ground := Ground.data }], guard := none }) (v := ?_) rfl (by kernel_rfl) (by kernel_rfl) (by kernel_rfl) (fun _ _ _ h => h) (Or.inl ⟨by rfl, ?_⟩) (by assumption) ?_
        rotate_left
        · (intro w hSw; (try dsimp only at hSw); go_simp; try with_reducible rfl)
        try simp only [Act.put, List.setIfInBounds_toArray, List.set_cons_zero, List.set_cons_succ]
        refine wpAnyH_ready (rs := [11]) (by kernel_rfl) (by simp) ?_
        refine AllReadyH.cons (o := { dst := none, op := Op.store 56 (Operand.tmp 5) (Operand.tmp 17), type := 0, pos := "nets.go:25", after := #[{ on := 10, ground := Ground.data }, { on := 9, ground := Ground.data }, { on := 8, ground := Ground.chain }, { on := 0, ground := Ground.phase }, { on := 1, ground := Ground.phase }, { on := 2, ground := Ground.phase }, { on := 3, ground := Ground.phase }, { on := 4, ground := Ground.phase }, { on := 5, ground := Ground.phase }, { on := 6, ground := Ground.phase }, { on := 7, ground := Ground.phase }, { on := 8, ground := Ground.phase }, { on := 9, ground := Ground.phase }, { on := 10, ground := Ground.phase }], guard := none }) rfl (fun K hK => ?_) ?_
        · go_simp
          refine hK.out _ _ ?_ (fun hHeld2 => ?_)
          · exact keepG (by have := HSz.out; omega) (by have := HSz.out; omega) hHeld
          clear hHeld
          have hHeld := hHeld2
          clear hHeld2
          clear hK K
          try simp only [Act.put, List.setIfInBounds_toArray, List.set_cons_zero, List.set_cons_succ]
          refine wpAnyH_done (by kernel_rfl) ?_ _
          refine NoPanic.normal ?_
          obtain ⟨W1, hW1⟩ : ∃ W, W = (((w2.setCell ⟨W0.heap.size, 0, none⟩ (.bool bd)).setCell ⟨W0.heap.size, 1, none⟩ (.int .i64 (s : Int))).setCell ⟨W0.heap.size, 2, none⟩ (.slice none 0 0)).setCell ⟨W0.heap.size, 3, none⟩ (.slice (some ⟨gb, 0, none⟩) n cb) := ⟨_, rfl⟩
          obtain ⟨G, hG⟩ : ∃ G, G = W0.heap.size := ⟨_, rfl⟩
          have hGb0 : W0.heap.size ≠ gb := by simp at hgb; omega
          have HWk : Hid (WkAt W1 w.heap.size G n t bd s ms (.slice none 0 0) (.slice (some ⟨gb, 0, none⟩) n cb)) := by rw [hW1, hG]; exact wkB HSz.out hu02 hg0 hg1 hg2 hg3 hzg HR.out.1 hB0 hB1 HR.out.2.1 HR.out.2.2.1 HR.out.2.2.2.1 HR.out.2.2.2.2.1 HR.out.2.2.2.2.2
          have hU1 : Up w W1 := by rw [hW1]; exact ((((huW.trans hu02).setCell (by simp; have := HSz.out; omega) _).setCell (by simp; have := HSz.out; omega) _).setCell (by simp; have := HSz.out; omega) _).setCell (by simp; have := HSz.out; omega) _
          have hIB : IsI W1 gb (valsI n t bs.data.toList) := by rw [hW1]; exact IsI.put (IsI.put (IsI.put (IsI.put ib hGb0 _) hGb0 _) hGb0 _) hGb0 _
          have hGb : G ≠ gb := by rw [hG]; exact hGb0
          have hGl : G < W1.heap.size := by rw [hW1, hG]; have := World.block_lt_of_cell? w2 ⟨W0.heap.size, 0, none⟩ hg0; simpa using this
          have hgbl := hIB.1
          have hgbR : w.heap.size + 1 + 1 ≠ gb := by have := HSz.out; simp at hgb; omega
          have hgbS : w.heap.size ≤ gb := by have := HSz.out; simp at hgb; omega
          have hltS := HWk.out.lt
          have hP0 := HWk.out.b0
          rw [← hW1, ← hG]
          clear hW1 hG hHeld hu2 hu02 ib hgb hGb0 hA0 hA1 hA3 hB0 hB1 hB2 hB3 huW
          clear hg0 hg1 hg2 hg3 hzg
          go_wp2_with fail
          clear hP0
          rw [HDI.out]
          obtain ⟨d, hd⟩ : ∃ d, d = n / 2 := ⟨_, rfl⟩
          rw [← hd]
          have hd8 : d ≤ 8 := by omega
          have hd2 : 2 ≤ d := by omega
          have hDD : d * d ≤ 8 * 8 := Nat.mul_le_mul hd8 hd8
          have hDD2 : 2 * 2 ≤ d * d := Nat.mul_le_mul hd2 hd2
          obtain ⟨D, hD⟩ : ∃ D, D = d * d := ⟨_, rfl⟩
          rw [← hD] at hDD hDD2
          have HDD : Hid (D = n / 2 * (n / 2)) := show _ = _ by rw [hD, hd]
          have e0 : IntKind.i64.wrap ((d : Int) * (d : Int)) = (D : Int) := by rw [hD, Int.natCast_mul]; exact IntWalk.i64_in _ (by rw [← Int.natCast_mul, ← hD]; omega)
          clear hD hd
          go_loopw [7] (fun si wr => ∃ (i : Nat) (mv : Value), i ≤ D ∧ si = .int .i64 (i : Int) ∧ Hid (WkAt wr w.heap.size G n t bd s ms mv (.slice (some ⟨gb, 0, none⟩) n cb)) ∧ OwnI wr W1.heap.size mv ((List.range i).map (valC t ms.data.toList)) ∧ IsI wr gb (valsI n t bs.data.toList) ∧ Up w wr ∧ W1.heap.size ≤ wr.heap.size) (fun si _ => D - (intOf si).toNat)
          case atStart => exact ⟨0, _, Nat.zero_le _, rfl, HWk.out, World.ownsRow_nil _ _ _ _, hIB, hU1, Nat.le_refl _⟩
          case round =>
            obtain ⟨i, mv, hi, rfl, HWr, hown, iBr, hur, hszr⟩ := hrel
            by_cases hlt : i < D
            · have hA2 := HWr.out.a2
              have hB1 := HWr.out.b1
              have hG2 := HWr.out.g2
              have hzG := HWr.out.zg 2
              have c1 : (i : Int) < (D : Int) := by omega
              have hb1 := byteL_lt ms.data.toList (2 * i)
              have hb2 := byteL_lt ms.data.toList (2 * i + 1)
              have HR6 : Hid ((List.range (i + 1)).map (valC t ms.data.toList) = (List.range i).map (valC t ms.data.toList) ++ [(256 * (byteL ms.data.toList (2 * i) : Int) + (byteL ms.data.toList (2 * i + 1) : Int)) % (t : Int)]) := map_range_succ _ _
              have HX1 : Hid (byteL ms.data.toList (2 * (i : Int)).toNat = byteL ms.data.toList (2 * i)) := show _ = _ by rw [show (2 * (i : Int)).toNat = 2 * i by omega]
              have HX2 : Hid (byteL ms.data.toList (2 * (i : Int) + 1).toNat = byteL ms.data.toList (2 * i + 1)) := show _ = _ by rw [show (2 * (i : Int) + 1).toNat = 2 * i + 1 by omega]
              generalize byteL ms.data.toList (2 * i) = x at hb1 HR6 HX1
              generalize byteL ms.data.toList (2 * i + 1) = y at hb2 HR6 HX2
              have e1 : IntKind.i64.wrap (2 * (i : Int)) = 2 * (i : Int) := IntWalk.i64_in _ (by omega)
              have e2 : IntKind.i64.wrap (2 * (i : Int) + 1) = 2 * (i : Int) + 1 := IntWalk.i64_in _ (by omega)
              have e3 : IntKind.i64.wrap (256 * (x : Int)) = 256 * (x : Int) := IntWalk.i64_in _ (by omega)
              have e4 : IntKind.i64.wrap (256 * (x : Int) + (y : Int)) = 256 * (x : Int) + (y : Int) := IntWalk.i64_in _ (by omega)
              have e5 : (256 * (x : Int) + (y : Int)).tmod (t : Int) = (256 * (x : Int) + (y : Int)) % (t : Int) := Int.tmod_eq_emod_of_nonneg (by omega)
              generalize (256 * (x : Int) + (y : Int)) % (t : Int) = z at e5 HR6
              have et1 : ¬ (t : Int) = 0 := by omega
              have et2 : ¬ t = 0 := by omega
              have et0 : ((t : Int) == 0) = false := beq_eq_false_iff_ne.2 et1
              have hcn : (wr.alloc (.cells #[.int .i64 z] 3)).drew.cell? ⟨wr.heap.size, 0, none⟩ = some (.int .i64 z) := by simp
              have hG2a : (wr.alloc (.cells #[.int .i64 z] 3)).drew.cell? ⟨G, 2, none⟩ = some mv := keepC (Up.drew (Up.alloc (Up.refl wr) (.cells #[.int .i64 z] 3))) hG2
              have hbs2 := Nat.le_trans hszr (Up.drew (Up.alloc (Up.refl wr) (.cells #[.int .i64 z] 3))).size
              go_wp2_with fail
              refine wp_region_noPanic ?_
              refine wp_region_held_drew (S := (fun w' => w'.cell? ⟨w.heap.size, 2, none⟩ = some (.string ms) ∧ w'.cell? ⟨w.heap.size + 1, 1, none⟩ = some (.int .i64 (t : Int)))) (by kernel_rfl) ?_ (fun hHeld => ?_)
              · exact ⟨hA2, hB1⟩
              refine wpAnyH_take (i := 0) (oi := { dst := some 28, op := Op.fieldAddr 56 (Operand.tmp 5) 2, type := 0, pos := "nets.go:28", after := #[], guard := none }) (v := ?_) rfl (by kernel_rfl) (by kernel_rfl) (by kernel_rfl) (fun _ _ _ h => h) (Or.inl ⟨by rfl, ?_⟩) (by assumption) ?_
              rotate_left
              · (intro w hSw; (try dsimp only at hSw); go_simp; try with_reducible rfl)
              try simp only [Act.put, List.setIfInBounds_toArray, List.set_cons_zero, List.set_cons_succ]
              refine wpAnyH_take (i := 2) (oi := { dst := some 30, op := Op.fieldAddr 58 (Operand.tmp 2) 2, type := 0, pos := "nets.go:28", after := #[], guard := none }) (v := ?_) rfl (by kernel_rfl) (by kernel_rfl) (by kernel_rfl) (fun _ _ _ h => h) (Or.inl ⟨by rfl, ?_⟩) (by assumption) ?_
              rotate_left
              · (intro w hSw; (try dsimp only at hSw); go_simp; try with_reducible rfl)
              try simp only [Act.put, List.setIfInBounds_toArray, List.set_cons_zero, List.set_cons_succ]
              refine wpAnyH_take (i := 3) (oi := { dst := some 31, op := Op.load 9 (Operand.tmp 30), type := 9, pos := "nets.go:28", after := #[{ on := 2, ground := Ground.data }], guard := none }) (v := ?_) rfl (by kernel_rfl) (by kernel_rfl) (by kernel_rfl) (fun _ _ _ h => h) (Or.inl ⟨by rfl, ?_⟩) (by assumption) ?_
              rotate_left
              · (intro w hSw; (try dsimp only at hSw); go_simp; try with_reducible rfl)
              try simp only [Act.put, List.setIfInBounds_toArray, List.set_cons_zero, List.set_cons_succ]
              refine wpAnyH_take (i := 4) (oi := { dst := some 32, op := Op.move (Operand.tmp 7), type := 3, pos := "nets.go:28", after := #[], guard := none }) (v := ?_) rfl (by kernel_rfl) (by kernel_rfl) (by kernel_rfl) (fun _ _ _ h => h) (Or.inl ⟨by rfl, ?_⟩) (by assumption) ?_
              rotate_left
              · (intro w hSw; (try dsimp only at hSw); go_simp; try with_reducible rfl)
              try simp only [Act.put, List.setIfInBounds_toArray, List.set_cons_zero, List.set_cons_succ]
              refine wpAnyH_take (i := 5) (oi := { dst := some 33, op := Op.binOp BinOp.mul 3 (Operand.const (Value.int IntKind.i64 2)) (Operand.tmp 32) 3, type := 3, pos := "nets.go:28", after := #[{ on := 4, ground := Ground.data }], guard := none }) (v := ?_) rfl (by kernel_rfl) (by kernel_rfl) (by kernel_rfl) (fun _ _ _ h => h) (Or.inl ⟨by rfl, ?_⟩) (by assumption) ?_
              rotate_left
              · (intro w hSw; (try dsimp only at hSw); go_simp; try with_reducible rfl)
              try simp only [Act.put, List.setIfInBounds_toArray, List.set_cons_zero, List.set_cons_succ]
              refine wpAnyH_take (i := 8) (oi := { dst := some 36, op := Op.fieldAddr 58 (Operand.tmp 2) 2, type := 0, pos := "nets.go:28", after := #[], guard := none }) (v := ?_) rfl (by kernel_rfl) (by kernel_rfl) (by kernel_rfl) (fun _ _ _ h => h) (Or.inl ⟨by rfl, ?_⟩) (by assumption) ?_
              rotate_left
              · (intro w hSw; (try dsimp only at hSw); go_simp; try with_reducible rfl)
              try simp only [Act.put, List.setIfInBounds_toArray, List.set_cons_zero, List.set_cons_succ]
              refine wpAnyH_take (i := 9) (oi := { dst := some 37, op := Op.load 9 (Operand.tmp 36), type := 9, pos := "nets.go:28", after := #[{ on := 8, ground := Ground.data }], guard := none }) (v := ?_) rfl (by kernel_rfl) (by kernel_rfl) (by kernel_rfl) (fun _ _ _ h => h) (Or.inl ⟨by rfl, ?_⟩) (by assumption) ?_
              rotate_left
              · (intro w hSw; (try dsimp only at hSw); go_simp; try with_reducible rfl)
              try simp only [Act.put, List.setIfInBounds_toArray, List.set_cons_zero, List.set_cons_succ]
              refine wpAnyH_take (i := 10) (oi := { dst := some 38, op := Op.move (Operand.tmp 7), type := 3, pos := "nets.go:28", after := #[], guard := none }) (v := ?_) rfl (by kernel_rfl) (by kernel_rfl) (by kernel_rfl) (fun _ _ _ h => h) (Or.inl ⟨by rfl, ?_⟩) (by assumption) ?_
              rotate_left
              · (intro w hSw; (try dsimp only at hSw); go_simp; try with_reducible rfl)
              try simp only [Act.put, List.setIfInBounds_toArray, List.set_cons_zero, List.set_cons_succ]
              refine wpAnyH_take (i := 11) (oi := { dst := some 39, op := Op.binOp BinOp.mul 3 (Operand.const (Value.int IntKind.i64 2)) (Operand.tmp 38) 3, type := 3, pos := "nets.go:28", after := #[{ on := 10, ground := Ground.data }], guard := none }) (v := ?_) rfl (by kernel_rfl) (by kernel_rfl) (by kernel_rfl) (fun _ _ _ h => h) (Or.inl ⟨by rfl, ?_⟩) (by assumption) ?_
              rotate_left
              · (intro w hSw; (try dsimp only at hSw); go_simp; try with_reducible rfl)
              try simp only [Act.put, List.setIfInBounds_toArray, List.set_cons_zero, List.set_cons_succ]
              refine wpAnyH_take (i := 12) (oi := { dst := some 40, op := Op.binOp BinOp.add 3 (Operand.tmp 39) (Operand.const (Value.int IntKind.i64 1)) 3, type := 3, pos := "nets.go:28", after := #[{ on := 11, ground := Ground.data }], guard := none }) (v := ?_) rfl (by kernel_rfl) (by kernel_rfl) (by kernel_rfl) (fun _ _ _ h => h) (Or.inl ⟨by rfl, ?_⟩) (by assumption) ?_
              rotate_left
              · (intro w hSw; (try dsimp only at hSw); go_simp; try with_reducible rfl)
              try simp only [Act.put, List.setIfInBounds_toArray, List.set_cons_zero, List.set_cons_succ]
              refine wpAnyH_take (i := 15) (oi := { dst := some 43, op := Op.fieldAddr 28 (Operand.tmp 3) 1, type := 0, pos := "nets.go:28", after := #[], guard := none }) (v := ?_) rfl (by kernel_rfl) (by kernel_rfl) (by kernel_rfl) (fun _ _ _ h => h) (Or.inl ⟨by rfl, ?_⟩) (by assumption) ?_
              rotate_left
              · (intro w hSw; (try dsimp only at hSw); go_simp; try with_reducible rfl)
              try simp only [Act.put, List.setIfInBounds_toArray, List.set_cons_zero, List.set_cons_succ]
              refine wpAnyH_take (i := 16) (oi := { dst := some 44, op := Op.load 3 (Operand.tmp 43), type := 3, pos := "nets.go:28", after := #[{ on := 15, ground := Ground.data }], guard := none }) (v := ?_) rfl (by kernel_rfl) (by kernel_rfl) (by kernel_rfl) (fun _ _ _ h => h) (Or.inl ⟨by rfl, ?_⟩) (by assumption) ?_
              rotate_left
              · (intro w hSw; (try dsimp only at hSw); go_simp; try with_reducible rfl)
              try simp only [Act.put, List.setIfInBounds_toArray, List.set_cons_zero, List.set_cons_succ]
              refine wpAnyH_ready (rs := [1, 6]) (by kernel_rfl) (by simp) ?_
              refine AllReadyH.cons (o := { dst := some 29, op := Op.load 54 (Operand.tmp 28), type := 54, pos := "nets.go:28", after := #[{ on := 0, ground := Ground.data }], guard := none }) rfl (fun K hK => ?_) ?_
              · go_simp
                refine hK.out _ _ ?_ (fun hHeld2 => ?_)
                · exact hHeld
                clear hHeld
                have hHeld := hHeld2
                clear hHeld2
                clear hK K
                try simp only [Act.put, List.setIfInBounds_toArray, List.set_cons_zero, List.set_cons_succ]
                refine wpAnyH_ready (rs := [6]) (by kernel_rfl) (by simp) ?_
                refine AllReadyH.cons (o := { dst := some 34, op := Op.call { callee := Callee.value (Operand.func 64), args := #[Operand.tmp 31, Operand.tmp 33], argTypes := #[9, 3] }, type := 3, pos := "nets.go:28", after := #[{ on := 3, ground := Ground.data }, { on := 5, ground := Ground.data }], guard := none }) rfl (fun K hK => ?_) ?_
                · go_simp
                  refine Calls.mono (octet_calls _ _ _ hms (by omega)) ?_
                  rintro r w' ⟨rfl, rfl⟩
                  rw [HX1.out]
                  go_wp2_with fail
                  refine hK.out _ _ ?_ (fun hHeld2 => ?_)
                  · exact hHeld
                  clear hHeld
                  have hHeld := hHeld2
                  clear hHeld2
                  clear hK K
                  try simp only [Act.put, List.setIfInBounds_toArray, List.set_cons_zero, List.set_cons_succ]
                  refine wpAnyH_take (i := 7) (oi := { dst := some 35, op := Op.binOp BinOp.mul 3 (Operand.const (Value.int IntKind.i64 256)) (Operand.tmp 34) 3, type := 3, pos := "nets.go:28", after := #[{ on := 6, ground := Ground.data }], guard := none }) (v := ?_) rfl (by kernel_rfl) (by kernel_rfl) (by kernel_rfl) (fun _ _ _ h => h) (Or.inl ⟨by rfl, ?_⟩) (by assumption) ?_
                  rotate_left
                  · (intro w hSw; (try dsimp only at hSw); go_simp; try with_reducible rfl)
                  try simp only [Act.put, List.setIfInBounds_toArray, List.set_cons_zero, List.set_cons_succ]
                  refine wpAnyH_ready (rs := [13]) (by kernel_rfl) (by simp) ?_
                  refine AllReadyH.cons (o := { dst := some 41, op := Op.call { callee := Callee.value (Operand.func 64), args := #[Operand.tmp 37, Operand.tmp 40], argTypes := #[9, 3] }, type := 3, pos := "nets.go:28", after := #[{ on := 9, ground := Ground.data }, { on := 12, ground := Ground.data }, { on := 6, ground := Ground.chain }], guard := none }) rfl (fun K hK => ?_) ?_
                  · go_simp
                    refine Calls.mono (octet_calls _ _ _ hms (by omega)) ?_
                    rintro r w' ⟨rfl, rfl⟩
                    rw [HX2.out]
                    go_wp2_with fail
                    refine hK.out _ _ ?_ (fun hHeld2 => ?_)
                    · exact hHeld
                    clear hHeld
                    have hHeld := hHeld2
                    clear hHeld2
                    clear hK K
                    try simp only [Act.put, List.setIfInBounds_toArray, List.set_cons_zero, List.set_cons_succ]
                    refine wpAnyH_take (i := 14) (oi := { dst := some 42, op := Op.binOp BinOp.add 3 (Operand.tmp 35) (Operand.tmp 41) 3, type := 3, pos := "nets.go:28", after := #[{ on := 7, ground := Ground.data }, { on := 13, ground := Ground.data }], guard := none }) (v := ?_) rfl (by kernel_rfl) (by kernel_rfl) (by kernel_rfl) (fun _ _ _ h => h) (Or.inl ⟨by rfl, ?_⟩) (by assumption) ?_
                    rotate_left
                    · (intro w hSw; (try dsimp only at hSw); go_simp; try with_reducible rfl)
                    try simp only [Act.put, List.setIfInBounds_toArray, List.set_cons_zero, List.set_cons_succ]
                    refine wpAnyH_take (i := 17) (oi := { dst := some 45, op := Op.binOp BinOp.rem 3 (Operand.tmp 42) (Operand.tmp 44) 3, type := 3, pos := "nets.go:28", after := #[{ on := 14, ground := Ground.data }, { on := 16, ground := Ground.data }], guard := none }) (v := ?_) rfl (by kernel_rfl) (by kernel_rfl) (by kernel_rfl) (fun _ _ _ h => h) (Or.inl ⟨by rfl, ?_⟩) (by assumption) ?_
                    rotate_left
                    · (intro w hSw; (try dsimp only at hSw); go_simp; try with_reducible rfl)
                    try simp only [Act.put, List.setIfInBounds_toArray, List.set_cons_zero, List.set_cons_succ]
                    refine wpAnyH_ready (rs := [18]) (by kernel_rfl) (by simp) ?_
                    refine AllReadyH.cons (o := { dst := some 46, op := Op.buildSlice 54 1 #[(0, Operand.tmp 45)], type := 54, pos := "nets.go:28", after := #[{ on := 17, ground := Ground.data }], guard := none }) rfl (fun K hK => ?_) ?_
                    · go_simp
                      refine hK.out _ _ ?_ (fun hHeld2 => ?_)
                      · exact ⟨keepC (Up.drew (Up.alloc (Up.refl _) _)) hA2, keepC (Up.drew (Up.alloc (Up.refl _) _)) hB1⟩
                      clear hHeld
                      have hHeld := hHeld2
                      clear hHeld2
                      clear hK K
                      try simp only [Act.put, List.setIfInBounds_toArray, List.set_cons_zero, List.set_cons_succ]
                      refine wpAnyH_ready (rs := [19]) (by kernel_rfl) (by simp) ?_
                      refine AllReadyH.cons (o := { dst := some 47, op := Op.call { callee := Callee.builtin Builtin.append, args := #[Operand.tmp 29, Operand.tmp 46], argTypes := #[54, 54] }, type := 54, pos := "nets.go:28", after := #[{ on := 1, ground := Ground.data }, { on := 18, ground := Ground.data }, { on := 13, ground := Ground.chain }], guard := none }) rfl (fun K hK => ?_) ?_
                      · refine step_append_int (wr.alloc (.cells #[.int .i64 z] 3)).drew z wr.heap.size rfl (.tmp 29) (.tmp 46) rfl _ mv ((List.range i).map (valC t ms.data.toList)) rfl (hown.up (Up.drew (Up.alloc (Up.refl _) _))) rfl hcn (by simp; omega) hbs2 ?_
                        intro v4 w4 hown4 hg4 hb4
                        obtain ⟨g4, c4, hv4, _, _⟩ := hown4.is (by simp)
                        rw [List.length_append, List.length_map, List.length_range, List.length_singleton] at hv4
                        subst hv4
                        have hbb : Below W1.heap.size wr w4 := Below.trans (Below.drew (Below.alloc (Below.refl _ _) hszr _)) hb4
                        have hG4 : w4.cell? ⟨G, 2, none⟩ = some mv := (hbb.cell (p := ⟨G, 2, none⟩) hGl).trans hG2
                        have hz4 : w4.frozen? ⟨G, 2, none⟩ = false := (hbb.frozen (p := ⟨G, 2, none⟩) hGl).trans hzG
                        refine hK.out _ _ ?_ (fun hHeld2 => ?_)
                        · exact ⟨(hbb.cell (p := ⟨w.heap.size, 2, none⟩) (by show w.heap.size < _; omega)).trans hA2, (hbb.cell (p := ⟨w.heap.size + 1, 1, none⟩) (by show w.heap.size + 1 < _; omega)).trans hB1⟩
                        clear hHeld
                        have hHeld := hHeld2
                        clear hHeld2
                        clear hK K
                        try simp only [Act.put, List.setIfInBounds_toArray, List.set_cons_zero, List.set_cons_succ]
                        refine wpAnyH_take (i := 20) (oi := { dst := some 48, op := Op.fieldAddr 56 (Operand.tmp 5) 2, type := 0, pos := "nets.go:28", after := #[{ on := 0, ground := Ground.phase }, { on := 1, ground := Ground.phase }, { on := 2, ground := Ground.phase }, { on := 3, ground := Ground.phase }, { on := 4, ground := Ground.phase }, { on := 5, ground := Ground.phase }, { on := 6, ground := Ground.phase }, { on := 7, ground := Ground.phase }, { on := 8, ground := Ground.phase }, { on := 9, ground := Ground.phase }, { on := 10, ground := Ground.phase }, { on := 11, ground := Ground.phase }, { on := 12, ground := Ground.phase }, { on := 13, ground := Ground.phase }, { on := 14, ground := Ground.phase }, { on := 15, ground := Ground.phase }, { on := 16, ground := Ground.phase }, { on := 17, ground := Ground.phase }, { on := 18, ground := Ground.phase }, { on := 19, ground := Ground.phase }], guard := none }) (v := ?_) rfl (by kernel_rfl) (by kernel_rfl) (by kernel_rfl) (fun _ _ _ h => h) (Or.inl ⟨by rfl, ?_⟩) (by assumption) ?_
                        rotate_left
                        · (intro w hSw; (try dsimp only at hSw); go_simp; try with_reducible rfl)
                        try simp only [Act.put, List.setIfInBounds_toArray, List.set_cons_zero, List.set_cons_succ]
                        refine wpAnyH_ready (rs := [21]) (by kernel_rfl) (by simp) ?_
                        refine AllReadyH.cons (o := { dst := none, op := Op.store 54 (Operand.tmp 48) (Operand.tmp 47), type := 0, pos := "nets.go:28", after := #[{ on := 20, ground := Ground.data }, { on := 19, ground := Ground.data }, { on := 19, ground := Ground.chain }, { on := 0, ground := Ground.phase }, { on := 1, ground := Ground.phase }, { on := 2, ground := Ground.phase }, { on := 3, ground := Ground.phase }, { on := 4, ground := Ground.phase }, { on := 5, ground := Ground.phase }, { on := 6, ground := Ground.phase }, { on := 7, ground := Ground.phase }, { on := 8, ground := Ground.phase }, { on := 9, ground := Ground.phase }, { on := 10, ground := Ground.phase }, { on := 11, ground := Ground.phase }, { on := 12, ground := Ground.phase }, { on := 13, ground := Ground.phase }, { on := 14, ground := Ground.phase }, { on := 15, ground := Ground.phase }, { on := 16, ground := Ground.phase }, { on := 17, ground := Ground.phase }, { on := 18, ground := Ground.phase }, { on := 19, ground := Ground.phase }], guard := none }) rfl (fun K hK => ?_) ?_
                        · go_simp
                          refine hK.out _ _ ?_ (fun hHeld2 => ?_)
                          · exact ⟨(far_set (by omega)).trans hHeld.1, (far_set (by omega)).trans hHeld.2⟩
                          clear hHeld
                          have hHeld := hHeld2
                          clear hHeld2
                          clear hK K
                          try simp only [Act.put, List.setIfInBounds_toArray, List.set_cons_zero, List.set_cons_succ]
                          refine wpAnyH_done (by kernel_rfl) ?_ _
                          refine NoPanic.normal ?_
                          clear hG2 hG2a hG4 hz4 hzG hA2 hB1 hHeld
                          go_wp2_with fail
                          go_roundw
                          case rel => exact ⟨i + 1, _, by omega, by go_num, HWr.out.next hbb hGl _, ownsRow_setCell_below (by rw [HR6.out]; exact hown4) hGl _, IsI.put (IsI.below iBr hbb hgbl) hGb _, Below.setCell (Below.trans hur (hbb.mono (by omega))) (by show w.heap.size ≤ G; omega) _, by have := hbb.size; simp; omega⟩
                          case measure => simp [intOf]; omega
                        exact AllReadyH.nil
                      exact AllReadyH.nil
                    exact AllReadyH.nil
                  exact AllReadyH.nil
                exact AllReadyH.nil
              refine AllReadyH.cons (o := { dst := some 34, op := Op.call { callee := Callee.value (Operand.func 64), args := #[Operand.tmp 31, Operand.tmp 33], argTypes := #[9, 3] }, type := 3, pos := "nets.go:28", after := #[{ on := 3, ground := Ground.data }, { on := 5, ground := Ground.data }], guard := none }) rfl (fun K hK => ?_) ?_
              · go_simp
                refine Calls.mono (octet_calls _ _ _ hms (by omega)) ?_
                rintro r w' ⟨rfl, rfl⟩
                rw [HX1.out]
                go_wp2_with fail
                refine hK.out _ _ ?_ (fun hHeld2 => ?_)
                · exact hHeld
                clear hHeld
                have hHeld := hHeld2
                clear hHeld2
                clear hK K
                try simp only [Act.put, List.setIfInBounds_toArray, List.set_cons_zero, List.set_cons_succ]
                refine wpAnyH_take (i := 7) (oi := { dst := some 35, op := Op.binOp BinOp.mul 3 (Operand.const (Value.int IntKind.i64 256)) (Operand.tmp 34) 3, type := 3, pos := "nets.go:28", after := #[{ on := 6, ground := Ground.data }], guard := none }) (v := ?_) rfl (by kernel_rfl) (by kernel_rfl) (by kernel_rfl) (fun _ _ _ h => h) (Or.inl ⟨by rfl, ?_⟩) (by assumption) ?_
                rotate_left
                · (intro w hSw; (try dsimp only at hSw); go_simp; try with_reducible rfl)
                try simp only [Act.put, List.setIfInBounds_toArray, List.set_cons_zero, List.set_cons_succ]
                refine wpAnyH_ready (rs := [1, 13]) (by kernel_rfl) (by simp) ?_
                refine AllReadyH.cons (o := { dst := some 29, op := Op.load 54 (Operand.tmp 28), type := 54, pos := "nets.go:28", after := #[{ on := 0, ground := Ground.data }], guard := none }) rfl (fun K hK => ?_) ?_
                · go_simp
                  refine hK.out _ _ ?_ (fun hHeld2 => ?_)
                  · exact hHeld
                  clear hHeld
                  have hHeld := hHeld2
                  clear hHeld2
                  clear hK K
                  try simp only [Act.put, List.setIfInBounds_toArray, List.set_cons_zero, List.set_cons_succ]
                  refine wpAnyH_ready (rs := [13]) (by kernel_rfl) (by simp) ?_
                  refine AllReadyH.cons (o := { dst := some 41, op := Op.call { callee := Callee.value (Operand.func 64), args := #[Operand.tmp 37, Operand.tmp 40], argTypes := #[9, 3] }, type := 3, pos := "nets.go:28", after := #[{ on := 9, ground := Ground.data }, { on := 12, ground := Ground.data }, { on := 6, ground := Ground.chain }], guard := none }) rfl (fun K hK => ?_) ?_
                  · go_simp
                    refine Calls.mono (octet_calls _ _ _ hms (by omega)) ?_
                    rintro r w' ⟨rfl, rfl⟩
                    rw [HX2.out]
                    go_wp2_with fail
                    refine hK.out _ _ ?_ (fun hHeld2 => ?_)
                    · exact hHeld
                    clear hHeld
                    have hHeld := hHeld2
                    clear hHeld2
                    clear hK K
                    try simp only [Act.put, List.setIfInBounds_toArray, List.set_cons_zero, List.set_cons_succ]
                    refine wpAnyH_take (i := 14) (oi := { dst := some 42, op := Op.binOp BinOp.add 3 (Operand.tmp 35) (Operand.tmp 41) 3, type := 3, pos := "nets.go:28", after := #[{ on := 7, ground := Ground.data }, { on := 13, ground := Ground.data }], guard := none }) (v := ?_) rfl (by kernel_rfl) (by kernel_rfl) (by kernel_rfl) (fun _ _ _ h => h) (Or.inl ⟨by rfl, ?_⟩) (by assumption) ?_
                    rotate_left
                    · (intro w hSw; (try dsimp only at hSw); go_simp; try with_reducible rfl)
                    try simp only [Act.put, List.setIfInBounds_toArray, List.set_cons_zero, List.set_cons_succ]
                    refine wpAnyH_take (i := 17) (oi := { dst := some 45, op := Op.binOp BinOp.rem 3 (Operand.tmp 42) (Operand.tmp 44) 3, type := 3, pos := "nets.go:28", after := #[{ on := 14, ground := Ground.data }, { on := 16, ground := Ground.data }], guard := none }) (v := ?_) rfl (by kernel_rfl) (by kernel_rfl) (by kernel_rfl) (fun _ _ _ h => h) (Or.inl ⟨by rfl, ?_⟩) (by assumption) ?_
                    rotate_left
                    · (intro w hSw; (try dsimp only at hSw); go_simp; try with_reducible rfl)
                    try simp only [Act.put, List.setIfInBounds_toArray, List.set_cons_zero, List.set_cons_succ]
                    refine wpAnyH_ready (rs := [18]) (by kernel_rfl) (by simp) ?_
                    refine AllReadyH.cons (o := { dst := some 46, op := Op.buildSlice 54 1 #[(0, Operand.tmp 45)], type := 54, pos := "nets.go:28", after := #[{ on := 17, ground := Ground.data }], guard := none }) rfl (fun K hK => ?_) ?_
                    · go_simp
                      refine hK.out _ _ ?_ (fun hHeld2 => ?_)
                      · exact ⟨keepC (Up.drew (Up.alloc (Up.refl _) _)) hA2, keepC (Up.drew (Up.alloc (Up.refl _) _)) hB1⟩
                      clear hHeld
                      have hHeld := hHeld2
                      clear hHeld2
                      clear hK K
                      try simp only [Act.put, List.setIfInBounds_toArray, List.set_cons_zero, List.set_cons_succ]
                      refine wpAnyH_ready (rs := [19]) (by kernel_rfl) (by simp) ?_
                      refine AllReadyH.cons (o := { dst := some 47, op := Op.call { callee := Callee.builtin Builtin.append, args := #[Operand.tmp 29, Operand.tmp 46], argTypes := #[54, 54] }, type := 54, pos := "nets.go:28", after := #[{ on := 1, ground := Ground.data }, { on := 18, ground := Ground.data }, { on := 13, ground := Ground.chain }], guard := none }) rfl (fun K hK => ?_) ?_
                      · refine step_append_int (wr.alloc (.cells #[.int .i64 z] 3)).drew z wr.heap.size rfl (.tmp 29) (.tmp 46) rfl _ mv ((List.range i).map (valC t ms.data.toList)) rfl (hown.up (Up.drew (Up.alloc (Up.refl _) _))) rfl hcn (by simp; omega) hbs2 ?_
                        intro v4 w4 hown4 hg4 hb4
                        obtain ⟨g4, c4, hv4, _, _⟩ := hown4.is (by simp)
                        rw [List.length_append, List.length_map, List.length_range, List.length_singleton] at hv4
                        subst hv4
                        have hbb : Below W1.heap.size wr w4 := Below.trans (Below.drew (Below.alloc (Below.refl _ _) hszr _)) hb4
                        have hG4 : w4.cell? ⟨G, 2, none⟩ = some mv := (hbb.cell (p := ⟨G, 2, none⟩) hGl).trans hG2
                        have hz4 : w4.frozen? ⟨G, 2, none⟩ = false := (hbb.frozen (p := ⟨G, 2, none⟩) hGl).trans hzG
                        refine hK.out _ _ ?_ (fun hHeld2 => ?_)
                        · exact ⟨(hbb.cell (p := ⟨w.heap.size, 2, none⟩) (by show w.heap.size < _; omega)).trans hA2, (hbb.cell (p := ⟨w.heap.size + 1, 1, none⟩) (by show w.heap.size + 1 < _; omega)).trans hB1⟩
                        clear hHeld
                        have hHeld := hHeld2
                        clear hHeld2
                        clear hK K
                        try simp only [Act.put, List.setIfInBounds_toArray, List.set_cons_zero, List.set_cons_succ]
                        refine wpAnyH_take (i := 20) (oi := { dst := some 48, op := Op.fieldAddr 56 (Operand.tmp 5) 2, type := 0, pos := "nets.go:28", after := #[{ on := 0, ground := Ground.phase }, { on := 1, ground := Ground.phase }, { on := 2, ground := Ground.phase }, { on := 3, ground := Ground.phase }, { on := 4, ground := Ground.phase }, { on := 5, ground := Ground.phase }, { on := 6, ground := Ground.phase }, { on := 7, ground := Ground.phase }, { on := 8, ground := Ground.phase }, { on := 9, ground := Ground.phase }, { on := 10, ground := Ground.phase }, { on := 11, ground := Ground.phase }, { on := 12, ground := Ground.phase }, { on := 13, ground := Ground.phase }, { on := 14, ground := Ground.phase }, { on := 15, ground := Ground.phase }, { on := 16, ground := Ground.phase }, { on := 17, ground := Ground.phase }, { on := 18, ground := Ground.phase }, { on := 19, ground := Ground.phase }], guard := none }) (v := ?_) rfl (by kernel_rfl) (by kernel_rfl) (by kernel_rfl) (fun _ _ _ h => h) (Or.inl ⟨by rfl, ?_⟩) (by assumption) ?_
                        rotate_left
                        · (intro w hSw; (try dsimp only at hSw); go_simp; try with_reducible rfl)
                        try simp only [Act.put, List.setIfInBounds_toArray, List.set_cons_zero, List.set_cons_succ]
                        refine wpAnyH_ready (rs := [21]) (by kernel_rfl) (by simp) ?_
                        refine AllReadyH.cons (o := { dst := none, op := Op.store 54 (Operand.tmp 48) (Operand.tmp 47), type := 0, pos := "nets.go:28", after := #[{ on := 20, ground := Ground.data }, { on := 19, ground := Ground.data }, { on := 19, ground := Ground.chain }, { on := 0, ground := Ground.phase }, { on := 1, ground := Ground.phase }, { on := 2, ground := Ground.phase }, { on := 3, ground := Ground.phase }, { on := 4, ground := Ground.phase }, { on := 5, ground := Ground.phase }, { on := 6, ground := Ground.phase }, { on := 7, ground := Ground.phase }, { on := 8, ground := Ground.phase }, { on := 9, ground := Ground.phase }, { on := 10, ground := Ground.phase }, { on := 11, ground := Ground.phase }, { on := 12, ground := Ground.phase }, { on := 13, ground := Ground.phase }, { on := 14, ground := Ground.phase }, { on := 15, ground := Ground.phase }, { on := 16, ground := Ground.phase }, { on := 17, ground := Ground.phase }, { on := 18, ground := Ground.phase }, { on := 19, ground := Ground.phase }], guard := none }) rfl (fun K hK => ?_) ?_
                        · go_simp
                          refine hK.out _ _ ?_ (fun hHeld2 => ?_)
                          · exact ⟨(far_set (by omega)).trans hHeld.1, (far_set (by omega)).trans hHeld.2⟩
                          clear hHeld
                          have hHeld := hHeld2
                          clear hHeld2
                          clear hK K
                          try simp only [Act.put, List.setIfInBounds_toArray, List.set_cons_zero, List.set_cons_succ]
                          refine wpAnyH_done (by kernel_rfl) ?_ _
                          refine NoPanic.normal ?_
                          clear hG2 hG2a hG4 hz4 hzG hA2 hB1 hHeld
                          go_wp2_with fail
                          go_roundw
                          case rel => exact ⟨i + 1, _, by omega, by go_num, HWr.out.next hbb hGl _, ownsRow_setCell_below (by rw [HR6.out]; exact hown4) hGl _, IsI.put (IsI.below iBr hbb hgbl) hGb _, Below.setCell (Below.trans hur (hbb.mono (by omega))) (by show w.heap.size ≤ G; omega) _, by have := hbb.size; simp; omega⟩
                          case measure => simp [intOf]; omega
                        exact AllReadyH.nil
                      exact AllReadyH.nil
                    exact AllReadyH.nil
                  exact AllReadyH.nil
                refine AllReadyH.cons (o := { dst := some 41, op := Op.call { callee := Callee.value (Operand.func 64), args := #[Operand.tmp 37, Operand.tmp 40], argTypes := #[9, 3] }, type := 3, pos := "nets.go:28", after := #[{ on := 9, ground := Ground.data }, { on := 12, ground := Ground.data }, { on := 6, ground := Ground.chain }], guard := none }) rfl (fun K hK => ?_) ?_
                · go_simp
                  refine Calls.mono (octet_calls _ _ _ hms (by omega)) ?_
                  rintro r w' ⟨rfl, rfl⟩
                  rw [HX2.out]
                  go_wp2_with fail
                  refine hK.out _ _ ?_ (fun hHeld2 => ?_)
                  · exact hHeld
                  clear hHeld
                  have hHeld := hHeld2
                  clear hHeld2
                  clear hK K
                  try simp only [Act.put, List.setIfInBounds_toArray, List.set_cons_zero, List.set_cons_succ]
                  refine wpAnyH_take (i := 14) (oi := { dst := some 42, op := Op.binOp BinOp.add 3 (Operand.tmp 35) (Operand.tmp 41) 3, type := 3, pos := "nets.go:28", after := #[{ on := 7, ground := Ground.data }, { on := 13, ground := Ground.data }], guard := none }) (v := ?_) rfl (by kernel_rfl) (by kernel_rfl) (by kernel_rfl) (fun _ _ _ h => h) (Or.inl ⟨by rfl, ?_⟩) (by assumption) ?_
                  rotate_left
                  · (intro w hSw; (try dsimp only at hSw); go_simp; try with_reducible rfl)
                  try simp only [Act.put, List.setIfInBounds_toArray, List.set_cons_zero, List.set_cons_succ]
                  refine wpAnyH_take (i := 17) (oi := { dst := some 45, op := Op.binOp BinOp.rem 3 (Operand.tmp 42) (Operand.tmp 44) 3, type := 3, pos := "nets.go:28", after := #[{ on := 14, ground := Ground.data }, { on := 16, ground := Ground.data }], guard := none }) (v := ?_) rfl (by kernel_rfl) (by kernel_rfl) (by kernel_rfl) (fun _ _ _ h => h) (Or.inl ⟨by rfl, ?_⟩) (by assumption) ?_
                  rotate_left
                  · (intro w hSw; (try dsimp only at hSw); go_simp; try with_reducible rfl)
                  try simp only [Act.put, List.setIfInBounds_toArray, List.set_cons_zero, List.set_cons_succ]
                  refine wpAnyH_ready (rs := [1, 18]) (by kernel_rfl) (by simp) ?_
                  refine AllReadyH.cons (o := { dst := some 29, op := Op.load 54 (Operand.tmp 28), type := 54, pos := "nets.go:28", after := #[{ on := 0, ground := Ground.data }], guard := none }) rfl (fun K hK => ?_) ?_
                  · go_simp
                    refine hK.out _ _ ?_ (fun hHeld2 => ?_)
                    · exact hHeld
                    clear hHeld
                    have hHeld := hHeld2
                    clear hHeld2
                    clear hK K
                    try simp only [Act.put, List.setIfInBounds_toArray, List.set_cons_zero, List.set_cons_succ]
                    refine wpAnyH_ready (rs := [18]) (by kernel_rfl) (by simp) ?_
                    refine AllReadyH.cons (o := { dst := some 46, op := Op.buildSlice 54 1 #[(0, Operand.tmp 45)], type := 54, pos := "nets.go:28", after := #[{ on := 17, ground := Ground.data }], guard := none }) rfl (fun K hK => ?_) ?_
                    · go_simp
                      refine hK.out _ _ ?_ (fun hHeld2 => ?_)
                      · exact ⟨keepC (Up.drew (Up.alloc (Up.refl _) _)) hA2, keepC (Up.drew (Up.alloc (Up.refl _) _)) hB1⟩
                      clear hHeld
                      have hHeld := hHeld2
                      clear hHeld2
                      clear hK K
                      try simp only [Act.put, List.setIfInBounds_toArray, List.set_cons_zero, List.set_cons_succ]
                      refine wpAnyH_ready (rs := [19]) (by kernel_rfl) (by simp) ?_
                      refine AllReadyH.cons (o := { dst := some 47, op := Op.call { callee := Callee.builtin Builtin.append, args := #[Operand.tmp 29, Operand.tmp 46], argTypes := #[54, 54] }, type := 54, pos := "nets.go:28", after := #[{ on := 1, ground := Ground.data }, { on := 18, ground := Ground.data }, { on := 13, ground := Ground.chain }], guard := none }) rfl (fun K hK => ?_) ?_
                      · refine step_append_int (wr.alloc (.cells #[.int .i64 z] 3)).drew z wr.heap.size rfl (.tmp 29) (.tmp 46) rfl _ mv ((List.range i).map (valC t ms.data.toList)) rfl (hown.up (Up.drew (Up.alloc (Up.refl _) _))) rfl hcn (by simp; omega) hbs2 ?_
                        intro v4 w4 hown4 hg4 hb4
                        obtain ⟨g4, c4, hv4, _, _⟩ := hown4.is (by simp)
                        rw [List.length_append, List.length_map, List.length_range, List.length_singleton] at hv4
                        subst hv4
                        have hbb : Below W1.heap.size wr w4 := Below.trans (Below.drew (Below.alloc (Below.refl _ _) hszr _)) hb4
                        have hG4 : w4.cell? ⟨G, 2, none⟩ = some mv := (hbb.cell (p := ⟨G, 2, none⟩) hGl).trans hG2
                        have hz4 : w4.frozen? ⟨G, 2, none⟩ = false := (hbb.frozen (p := ⟨G, 2, none⟩) hGl).trans hzG
                        refine hK.out _ _ ?_ (fun hHeld2 => ?_)
                        · exact ⟨(hbb.cell (p := ⟨w.heap.size, 2, none⟩) (by show w.heap.size < _; omega)).trans hA2, (hbb.cell (p := ⟨w.heap.size + 1, 1, none⟩) (by show w.heap.size + 1 < _; omega)).trans hB1⟩
                        clear hHeld
                        have hHeld := hHeld2
                        clear hHeld2
                        clear hK K
                        try simp only [Act.put, List.setIfInBounds_toArray, List.set_cons_zero, List.set_cons_succ]
                        refine wpAnyH_take (i := 20) (oi := { dst := some 48, op := Op.fieldAddr 56 (Operand.tmp 5) 2, type := 0, pos := "nets.go:28", after := #[{ on := 0, ground := Ground.phase }, { on := 1, ground := Ground.phase }, { on := 2, ground := Ground.phase }, { on := 3, ground := Ground.phase }, { on := 4, ground := Ground.phase }, { on := 5, ground := Ground.phase }, { on := 6, ground := Ground.phase }, { on := 7, ground := Ground.phase }, { on := 8, ground := Ground.phase }, { on := 9, ground := Ground.phase }, { on := 10, ground := Ground.phase }, { on := 11, ground := Ground.phase }, { on := 12, ground := Ground.phase }, { on := 13, ground := Ground.phase }, { on := 14, ground := Ground.phase }, { on := 15, ground := Ground.phase }, { on := 16, ground := Ground.phase }, { on := 17, ground := Ground.phase }, { on := 18, ground := Ground.phase }, { on := 19, ground := Ground.phase }], guard := none }) (v := ?_) rfl (by kernel_rfl) (by kernel_rfl) (by kernel_rfl) (fun _ _ _ h => h) (Or.inl ⟨by rfl, ?_⟩) (by assumption) ?_
                        rotate_left
                        · (intro w hSw; (try dsimp only at hSw); go_simp; try with_reducible rfl)
                        try simp only [Act.put, List.setIfInBounds_toArray, List.set_cons_zero, List.set_cons_succ]
                        refine wpAnyH_ready (rs := [21]) (by kernel_rfl) (by simp) ?_
                        refine AllReadyH.cons (o := { dst := none, op := Op.store 54 (Operand.tmp 48) (Operand.tmp 47), type := 0, pos := "nets.go:28", after := #[{ on := 20, ground := Ground.data }, { on := 19, ground := Ground.data }, { on := 19, ground := Ground.chain }, { on := 0, ground := Ground.phase }, { on := 1, ground := Ground.phase }, { on := 2, ground := Ground.phase }, { on := 3, ground := Ground.phase }, { on := 4, ground := Ground.phase }, { on := 5, ground := Ground.phase }, { on := 6, ground := Ground.phase }, { on := 7, ground := Ground.phase }, { on := 8, ground := Ground.phase }, { on := 9, ground := Ground.phase }, { on := 10, ground := Ground.phase }, { on := 11, ground := Ground.phase }, { on := 12, ground := Ground.phase }, { on := 13, ground := Ground.phase }, { on := 14, ground := Ground.phase }, { on := 15, ground := Ground.phase }, { on := 16, ground := Ground.phase }, { on := 17, ground := Ground.phase }, { on := 18, ground := Ground.phase }, { on := 19, ground := Ground.phase }], guard := none }) rfl (fun K hK => ?_) ?_
                        · go_simp
                          refine hK.out _ _ ?_ (fun hHeld2 => ?_)
                          · exact ⟨(far_set (by omega)).trans hHeld.1, (far_set (by omega)).trans hHeld.2⟩
                          clear hHeld
                          have hHeld := hHeld2
                          clear hHeld2
                          clear hK K
                          try simp only [Act.put, List.setIfInBounds_toArray, List.set_cons_zero, List.set_cons_succ]
                          refine wpAnyH_done (by kernel_rfl) ?_ _
                          refine NoPanic.normal ?_
                          clear hG2 hG2a hG4 hz4 hzG hA2 hB1 hHeld
                          go_wp2_with fail
                          go_roundw
                          case rel => exact ⟨i + 1, _, by omega, by go_num, HWr.out.next hbb hGl _, ownsRow_setCell_below (by rw [HR6.out]; exact hown4) hGl _, IsI.put (IsI.below iBr hbb hgbl) hGb _, Below.setCell (Below.trans hur (hbb.mono (by omega))) (by show w.heap.size ≤ G; omega) _, by have := hbb.size; simp; omega⟩
                          case measure => simp [intOf]; omega
                        exact AllReadyH.nil
                      exact AllReadyH.nil
                    exact AllReadyH.nil
                  refine AllReadyH.cons (o := { dst := some 46, op := Op.buildSlice 54 1 #[(0, Operand.tmp 45)], type := 54, pos := "nets.go:28", after := #[{ on := 17, ground := Ground.data }], guard := none }) rfl (fun K hK => ?_) ?_
                  · go_simp
                    refine hK.out _ _ ?_ (fun hHeld2 => ?_)
                    · exact ⟨keepC (Up.drew (Up.alloc (Up.refl _) _)) hA2, keepC (Up.drew (Up.alloc (Up.refl _) _)) hB1⟩
                    clear hHeld
                    have hHeld := hHeld2
                    clear hHeld2
                    clear hK K
                    try simp only [Act.put, List.setIfInBounds_toArray, List.set_cons_zero, List.set_cons_succ]
                    refine wpAnyH_ready (rs := [1]) (by kernel_rfl) (by simp) ?_
                    refine AllReadyH.cons (o := { dst := some 29, op := Op.load 54 (Operand.tmp 28), type := 54, pos := "nets.go:28", after := #[{ on := 0, ground := Ground.data }], guard := none }) rfl (fun K hK => ?_) ?_
                    · go_simp
                      refine hK.out _ _ ?_ (fun hHeld2 => ?_)
                      · exact hHeld
                      clear hHeld
                      have hHeld := hHeld2
                      clear hHeld2
                      clear hK K
                      try simp only [Act.put, List.setIfInBounds_toArray, List.set_cons_zero, List.set_cons_succ]
                      refine wpAnyH_ready (rs := [19]) (by kernel_rfl) (by simp) ?_
                      refine AllReadyH.cons (o := { dst := some 47, op := Op.call { callee := Callee.builtin Builtin.append, args := #[Operand.tmp 29, Operand.tmp 46], argTypes := #[54, 54] }, type := 54, pos := "nets.go:28", after := #[{ on := 1, ground := Ground.data }, { on := 18, ground := Ground.data }, { on := 13, ground := Ground.chain }], guard := none }) rfl (fun K hK => ?_) ?_
                      · refine step_append_int (wr.alloc (.cells #[.int .i64 z] 3)).drew z wr.heap.size rfl (.tmp 29) (.tmp 46) rfl _ mv ((List.range i).map (valC t ms.data.toList)) rfl (hown.up (Up.drew (Up.alloc (Up.refl _) _))) rfl hcn (by simp; omega) hbs2 ?_
                        intro v4 w4 hown4 hg4 hb4
                        obtain ⟨g4, c4, hv4, _, _⟩ := hown4.is (by simp)
                        rw [List.length_append, List.length_map, List.length_range, List.length_singleton] at hv4
                        subst hv4
                        have hbb : Below W1.heap.size wr w4 := Below.trans (Below.drew (Below.alloc (Below.refl _ _) hszr _)) hb4
                        have hG4 : w4.cell? ⟨G, 2, none⟩ = some mv := (hbb.cell (p := ⟨G, 2, none⟩) hGl).trans hG2
                        have hz4 : w4.frozen? ⟨G, 2, none⟩ = false := (hbb.frozen (p := ⟨G, 2, none⟩) hGl).trans hzG
                        refine hK.out _ _ ?_ (fun hHeld2 => ?_)
                        · exact ⟨(hbb.cell (p := ⟨w.heap.size, 2, none⟩) (by show w.heap.size < _; omega)).trans hA2, (hbb.cell (p := ⟨w.heap.size + 1, 1, none⟩) (by show w.heap.size + 1 < _; omega)).trans hB1⟩
                        clear hHeld
                        have hHeld := hHeld2
                        clear hHeld2
                        clear hK K
                        try simp only [Act.put, List.setIfInBounds_toArray, List.set_cons_zero, List.set_cons_succ]
                        refine wpAnyH_take (i := 20) (oi := { dst := some 48, op := Op.fieldAddr 56 (Operand.tmp 5) 2, type := 0, pos := "nets.go:28", after := #[{ on := 0, ground := Ground.phase }, { on := 1, ground := Ground.phase }, { on := 2, ground := Ground.phase }, { on := 3, ground := Ground.phase }, { on := 4, ground := Ground.phase }, { on := 5, ground := Ground.phase }, { on := 6, ground := Ground.phase }, { on := 7, ground := Ground.phase }, { on := 8, ground := Ground.phase }, { on := 9, ground := Ground.phase }, { on := 10, ground := Ground.phase }, { on := 11, ground := Ground.phase }, { on := 12, ground := Ground.phase }, { on := 13, ground := Ground.phase }, { on := 14, ground := Ground.phase }, { on := 15, ground := Ground.phase }, { on := 16, ground := Ground.phase }, { on := 17, ground := Ground.phase }, { on := 18, ground := Ground.phase }, { on := 19, ground := Ground.phase }], guard := none }) (v := ?_) rfl (by kernel_rfl) (by kernel_rfl) (by kernel_rfl) (fun _ _ _ h => h) (Or.inl ⟨by rfl, ?_⟩) (by assumption) ?_
                        rotate_left
                        · (intro w hSw; (try dsimp only at hSw); go_simp; try with_reducible rfl)
                        try simp only [Act.put, List.setIfInBounds_toArray, List.set_cons_zero, List.set_cons_succ]
                        refine wpAnyH_ready (rs := [21]) (by kernel_rfl) (by simp) ?_
                        refine AllReadyH.cons (o := { dst := none, op := Op.store 54 (Operand.tmp 48) (Operand.tmp 47), type := 0, pos := "nets.go:28", after := #[{ on := 20, ground := Ground.data }, { on := 19, ground := Ground.data }, { on := 19, ground := Ground.chain }, { on := 0, ground := Ground.phase }, { on := 1, ground := Ground.phase }, { on := 2, ground := Ground.phase }, { on := 3, ground := Ground.phase }, { on := 4, ground := Ground.phase }, { on := 5, ground := Ground.phase }, { on := 6, ground := Ground.phase }, { on := 7, ground := Ground.phase }, { on := 8, ground := Ground.phase }, { on := 9, ground := Ground.phase }, { on := 10, ground := Ground.phase }, { on := 11, ground := Ground.phase }, { on := 12, ground := Ground.phase }, { on := 13, ground := Ground.phase }, { on := 14, ground := Ground.phase }, { on := 15, ground := Ground.phase }, { on := 16, ground := Ground.phase }, { on := 17, ground := Ground.phase }, { on := 18, ground := Ground.phase }, { on := 19, ground := Ground.phase }], guard := none }) rfl (fun K hK => ?_) ?_
                        · go_simp
                          refine hK.out _ _ ?_ (fun hHeld2 => ?_)
                          · exact ⟨(far_set (by omega)).trans hHeld.1, (far_set (by omega)).trans hHeld.2⟩
                          clear hHeld
                          have hHeld := hHeld2
                          clear hHeld2
                          clear hK K
                          try simp only [Act.put, List.setIfInBounds_toArray, List.set_cons_zero, List.set_cons_succ]
                          refine wpAnyH_done (by kernel_rfl) ?_ _
                          refine NoPanic.normal ?_
                          clear hG2 hG2a hG4 hz4 hzG hA2 hB1 hHeld
                          go_wp2_with fail
                          go_roundw
                          case rel => exact ⟨i + 1, _, by omega, by go_num, HWr.out.next hbb hGl _, ownsRow_setCell_below (by rw [HR6.out]; exact hown4) hGl _, IsI.put (IsI.below iBr hbb hgbl) hGb _, Below.setCell (Below.trans hur (hbb.mono (by omega))) (by show w.heap.size ≤ G; omega) _, by have := hbb.size; simp; omega⟩
                          case measure => simp [intOf]; omega
                        exact AllReadyH.nil
                      exact AllReadyH.nil
                    exact AllReadyH.nil
                  exact AllReadyH.nil
                exact AllReadyH.nil
              exact AllReadyH.nil
            · obtain rfl : i = D := by omega
              have hal : ((List.range i).map (valC t ms.data.toList)).length = i := by simp
              obtain ⟨gm, cm, hmv, hgm, iM⟩ := hown.is (ne_nil_of_length hal (by omega))
              rw [hal] at hmv
              subst hmv
              have iM2 : IsI wr gm (valsI (n / 2 * (n / 2)) t ms.data.toList) := by rw [← HDD.out]; exact iM
              clear hown iM
              have k0 := HWr.out.g0
              have k1 := HWr.out.g1
              have k2 := HWr.out.g2
              have k3 := HWr.out.g3
              have m0 := HWr.out.r0
              have m1 := HWr.out.r1
              have m2 := HWr.out.r2
              have m3 := HWr.out.r3
              have mz := HWr.out.zr
              go_wp2_with fail
              refine bodyPost_ret (v := .agg #[.bool bd, .int .i64 (s : Int), .slice (some ⟨gm, 0, none⟩) i cm, .slice (some ⟨gb, 0, none⟩) n cb]) (by simp [results, Tryz.results16, go_sem, m0, m1, m2, m3]) rfl ⟨s, gm, cm, gb, cb, hs, by rw [HDD.out], by omega, hgbS, ?_, ?_, ?_⟩
              · exact IsI.put (IsI.put (IsI.put (IsI.put iM2 (by omega) _) (by omega) _) (by omega) _) (by omega) _
              · exact IsI.put (IsI.put (IsI.put (IsI.put iBr hgbR _) hgbR _) hgbR _) hgbR _
              · exact (((hur.setCell (by simp; omega) _).setCell (by simp; omega) _).setCell (by simp; omega) _).setCell (by simp; omega) _
        exact AllReadyH.nil
      exact AllReadyH.nil
    exact AllReadyH.nil
  exact AllReadyH.nil

end Go.Proofs.YtcjhgbljhpflfabGreat
