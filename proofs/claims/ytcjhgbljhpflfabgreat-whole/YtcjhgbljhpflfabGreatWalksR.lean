/-
  Walks: small tools; the reference's Mod and Fits.
  Walks: the reference's Good.
  Walks: the small functions of the statements.
  Walks: the reference's functions on numbers and bytes.
  Walks: slices of numbers: reading a text as numbers.
  Walks: the reference's writing of numbers.
-/
import Derived.Test.YtcjhgbljhpflfabGreatRows
import Derived.Test.YtcjhgbljhpflfabGreatMath
import Derived.WalkKit
import Derived.WalkSpells
import Derived.WalkLawsBesides
import Derived.Deep.QuietTactic
import Derived.BigQuiet
import Derived.WalkSmall
import Derived.Maps.AppendAt
import Derived.Deep.RegionWith
import Derived.Deep.DrawnRows
namespace Go.Proofs.YtcjhgbljhpflfabGreat
open Go.RowKit
set_option linter.unusedVariables false

theorem ret_bool {a b : Bool} (h : a = b) : Ending.returned (.bool a) = .returned (.bool b) := by rw [h]

theorem ret_int {k : IntKind} {a b : Int} (h : a = b) : Ending.returned (.int k a) = .returned (.int k b) := by rw [h]

/-- nothing that was there has turned -/
abbrev Up (w w' : World) : Prop := Below w.heap.size w w'

theorem Up.refl (w : World) : Up w w := Below.refl _ _

theorem Up.trans {a b c : World} (h : Up a b) (k : Up b c) : Up a c := Below.trans h (k.mono h.size)

theorem Up.alloc {a b : World} (h : Up a b) (o : Obj) : Up a (b.alloc o) := Below.alloc h h.size o

theorem Up.drew {a b : World} (h : Up a b) : Up a b.drew := Below.drew h

end Go.Proofs.YtcjhgbljhpflfabGreat

namespace Go.Proofs.YtcjhgbljhpflfabGreat
open Go.RowKit
set_option linter.unusedVariables false

end Go.Proofs.YtcjhgbljhpflfabGreat

namespace Go.Proofs.YtcjhgbljhpflfabGreat
open Go.RowKit
set_option linter.unusedVariables false

theorem bcell {W w1 : World} (hb : Up W w1) : (∀ b o, b < W.heap.size → w1.cell? ⟨b, o, none⟩ = W.cell? ⟨b, o, none⟩) ∧ (∀ b o, b < W.heap.size → w1.frozen? ⟨b, o, none⟩ = W.frozen? ⟨b, o, none⟩) :=
  ⟨fun b o h => hb.cell (p := ⟨b, o, none⟩) h, fun b o h => hb.frozen (p := ⟨b, o, none⟩) h⟩

end Go.Proofs.YtcjhgbljhpflfabGreat

namespace Go.Proofs.YtcjhgbljhpflfabGreat
open Go.RowKit
set_option linter.unusedVariables false

theorem Up.drewN {a b : World} {n : Nat} (h : Up a b) : Up a (b.drewN n) := below_drewN h n

end Go.Proofs.YtcjhgbljhpflfabGreat

namespace Go.Proofs.YtcjhgbljhpflfabGreat
open Go.RowKit
set_option linter.unusedVariables false

theorem info_int : (Tryz.prog.info? 3).map (fun i => (i.zero, i.size, i.bytes)) = some (some (.int .i64 0), 1, 8) := by kernel_rfl

/-- the slice v owns the numbers xs, in blocks from base on -/
abbrev OwnI (w : World) (base : Nat) (v : Value) (xs : List Int) : Prop := w.ownsRow base 3 1 v xs.length (xs.map (Value.int .i64))

theorem OwnI.lt {w : World} {base : Nat} {v : Value} {xs : List Int} (h : OwnI w base v xs) : ∀ k, v.ownBlock = some k → base ≤ k ∧ k < w.heap.size := World.ownsRow.lt h

theorem OwnI.base {w : World} {base base' : Nat} {v : Value} {xs : List Int} (h : OwnI w base v xs) (hb : base' ≤ base) : OwnI w base' v xs := by
  refine ⟨h.1, ?_⟩
  rcases h.2 with h2 | ⟨g, cap, cur, h3, h4, h5⟩
  · exact Or.inl h2
  · exact Or.inr ⟨g, cap, cur, h3, Nat.le_trans hb h4, h5⟩

theorem OwnI.up {w w' : World} {base : Nat} {v : Value} {xs : List Int} (h : OwnI w base v xs) (hu : Up w w') : OwnI w' base v xs := by
  refine ⟨h.1, ?_⟩
  rcases h.2 with h2 | ⟨g, cap, cur, h3, h4, h5, h6⟩
  · exact Or.inl h2
  · exact Or.inr ⟨g, cap, cur, h3, h4, by rw [hu.block g (Array.getElem?_eq_some_iff.1 h5).1]; exact h5, h6⟩

/-- out = append(out, y), out the call's own -/
theorem append_int {ops : Array Oper} {rest : List Oper} {o : Oper} {a : Act} {Q : Exit → Act → World → Prop} (w : World) (y : Int) (hgd : o.guard = none) (s x : Operand)
    (ho : o.op = .call { callee := .builtin .append, args := #[s, x], argTypes := #[54, 54] })
    (base : Nat) (v : Value) (xs : List Int) (hs : a.eval s = v) (hown : OwnI w base v xs) (hx : a.eval x = .slice (some ⟨w.heap.size, 0, none⟩) 1 1)
    (hlen : xs.length ≤ 1099511627776) (hbase : base ≤ w.heap.size)
    (h : ∀ v' w', OwnI w' base v' (xs ++ [y]) → w.grownBy w' v.ownBlock → Below base w w' → (v'.ownBlock = v.ownBlock ∨ ∃ g, v'.ownBlock = some g ∧ w.heap.size ≤ g) → wpList Tryz.prog ops Q rest (a.put o.dst v') w') :
    wpList Tryz.prog ops Q (o :: rest) a (w.alloc (.cells #[.int .i64 y] 3)) := by
  obtain ⟨i0, hi, hz0, hz1, hz2⟩ := info_parts info_int
  refine wpList_append_own_at _ hgd s x 54 ho base 3 i0 (.int .i64 0) 1 8 Tryz.underlying54 hi hz0 hz1 hz2 rfl (by decide) v xs.length (xs.map (Value.int .i64)) hs (World.ownsRow.alloc hown _)
    ⟨w.heap.size, 0, none⟩ 1 1 [.int .i64 y] hx rfl ?_ ?_ ?_ ?_ ?_ ?_
  · intro j u hj
    match j, hj with
    | 0, hj => simp at hj; subst hj; simp [Addr.add]
  · intro u hu; simp at hu; subst hu; rfl
  · unfold maxLen; omega
  · omega
  · simp; omega
  · intro v' w' h1 h2 h3 h4
    have hg : w.grownBy w' v.ownBlock := ⟨h2.os, h2.tape, h2.output, Nat.le_trans (by simp) h2.size, fun k hk hne => (h2.block k (by simp; omega) hne).trans (heap_alloc_old w _ hk)⟩
    refine h v' w' ?_ hg ?_ ?_
    · simpa [OwnI] using h1
    · exact (Below.refl _ _).grown hg hbase (fun k hk => (World.ownsRow.lt hown k hk).1)
    · rcases h4 with h4 | h4
      · exact Or.inl h4
      · exact Or.inr ⟨_, h4, by simp⟩

/-- the numbers of a text, from the first on: n of them, of so many bytes -/
def numsL (l : List UInt8) (size : Nat) : Nat → List Int
  | 0 => []
  | n + 1 => numsL l size n ++ [(numL l (n * size) size : Int)]

theorem numsL_length (l : List UInt8) (size n : Nat) : (numsL l size n).length = n := by
  induction n with
  | zero => rfl
  | succ n ih => simp [numsL, ih]

/-- is the text n numbers of so many bytes, each below m, and nothing else? -/
def okL (l : List UInt8) (n size : Nat) (m : Int) : Bool := decide (l.length = n * size) && (List.range n).all fun i => decide ((numL l (i * size) size : Int) < m)

theorem okL_iff (l : List UInt8) (n size : Nat) (m : Int) : okL l n size m = true ↔ l.length = n * size ∧ ∀ i, i < n → (numL l (i * size) size : Int) < m := by
  unfold okL
  simp

end Go.Proofs.YtcjhgbljhpflfabGreat

namespace Go.Proofs.YtcjhgbljhpflfabGreat
open Go.RowKit
set_option linter.unusedVariables false
attribute [local go_sem ↓] Go.wp_at_zero Go.wp_at_succ

/-- a number as n bytes -/
def textL (v : Nat) : Nat → List UInt8
  | 0 => []
  | n + 1 => textL (v / 256) n ++ [UInt8.ofNat (v % 256)]

theorem textL_length (v n : Nat) : (textL v n).length = n := by
  induction n generalizing v with
  | zero => rfl
  | succ n ih => simp [textL, ih]

theorem conv_one (x : Int) (h0 : 0 ≤ x) (h1 : x ≤ 255) (W : World) (g : Nat) (h : W.cell? ⟨g, 0, none⟩ = some (.int .u8 x)) :
    (convert 127 9 (.slice (some ⟨g, 0, none⟩) 1 1)).run Tryz.prog W = .ok (.string ⟨#[UInt8.ofNat x.toNat]⟩) W := by
  have e : ((UInt8.ofNat x.toNat).toNat : Int) = x := by
    have : x.toNat % 256 = x.toNat := by omega
    simp [this]
    omega
  refine run_convert_bytes_back (P := Tryz.prog) W 127 9 5 ⟨g, 0, none⟩ 1 [UInt8.ofNat x.toNat] Tryz.underlying127 Tryz.underlying5 Tryz.underlying9 ?_
  intro j hj
  simp at hj
  subst hj
  simp only [List.getElem_cons_zero, e]
  simpa [Addr.add] using h

/-- block g holds the numbers xs, from its first cell on -/
def IsI (w : World) (g : Nat) (xs : List Int) : Prop := g < w.heap.size ∧ ∀ i, i < xs.length → w.cell? ⟨g, i, none⟩ = some (.int .i64 (xs.getD i 0))

theorem IsI.up {w w' : World} {g : Nat} {xs : List Int} (h : IsI w g xs) (hu : Up w w') : IsI w' g xs :=
  ⟨Nat.lt_of_lt_of_le h.1 hu.size, fun i hi => (hu.cell (p := ⟨g, i, none⟩) h.1).trans (h.2 i hi)⟩

theorem OwnI.is {w : World} {base : Nat} {v : Value} {xs : List Int} (h : OwnI w base v xs) (hx : xs ≠ []) :
    ∃ g cap, v = .slice (some ⟨g, 0, none⟩) xs.length cap ∧ base ≤ g ∧ IsI w g xs := by
  have h' := h
  rcases h.2 with ⟨_, h2⟩ | ⟨g, cap, cur, rfl, h4, h5, _⟩
  · exact absurd (List.eq_nil_of_length_eq_zero h2) hx
  · refine ⟨g, cap, rfl, h4, (Array.getElem?_eq_some_iff.1 h5).1, fun i hi => ?_⟩
    rw [World.ownsRow.cellAt h' i (by omega), List.getElem?_map, List.getD_eq_getElem?_getD, List.getElem?_eq_getElem hi]
    rfl

/-- numbers as n bytes each -/
def textsL (n : Nat) : List Int → List UInt8
  | [] => []
  | x :: xs => textL x.toNat n ++ textsL n xs

theorem textsL_snoc (n : Nat) (xs : List Int) (x : Int) : textsL n (xs ++ [x]) = textsL n xs ++ textL x.toNat n := by
  induction xs with
  | nil => simp [textsL]
  | cons y xs ih => simp [textsL, ih]

theorem textsL_length (n : Nat) (xs : List Int) : (textsL n xs).length = n * xs.length := by
  induction xs with
  | nil => rfl
  | cons y xs ih => simp [textsL, ih, textL_length, Nat.mul_add]; omega

theorem take_snocI (xs : List Int) (k : Nat) (h : k < xs.length) : xs.take (k + 1) = xs.take k ++ [xs.getD k 0] := by
  rw [List.take_succ_eq_append_getElem h, List.getD_eq_getElem?_getD, List.getElem?_eq_getElem h]; rfl

end Go.Proofs.YtcjhgbljhpflfabGreat
