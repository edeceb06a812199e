/-
  Walks: the program's writing of numbers; bytes appended.
-/
import Derived.Test.YtmijhpogigcofaaWalksW
namespace Go.Proofs.Ytmijhpogigcofaa
open Go.RowKit
set_option linter.unusedVariables false

theorem info_byte : (Try.prog.info? 5).map (fun i => (i.zero, i.size, i.bytes)) = some (some (.int .u8 0), 1, 1) := by kernel_rfl

/-- the slice v owns the bytes xs, in blocks from base on -/
abbrev OwnB (w : World) (base : Nat) (v : Value) (xs : List UInt8) : Prop := w.ownsRow base 5 1 v xs.length (xs.map fun b => Value.int .u8 (b.toNat : Int))

theorem OwnB.up {w w' : World} {base : Nat} {v : Value} {xs : List UInt8} (h : OwnB w base v xs) (hu : Up w w') : OwnB w' base v xs := by
  refine ⟨h.1, ?_⟩
  rcases h.2 with h2 | ⟨g, cap, cur, h3, h4, h5, h6⟩
  · exact Or.inl h2
  · exact Or.inr ⟨g, cap, cur, h3, h4, by rw [hu.block g (Array.getElem?_eq_some_iff.1 h5).1]; exact h5, h6⟩

theorem append_byte {ops : Array Oper} {rest : List Oper} {o : Oper} {a : Act} {Q : Exit → Act → World → Prop} (w : World) (y : Int) (hgd : o.guard = none) (s x : Operand)
    (ho : o.op = .call { callee := .builtin .append, args := #[s, x], argTypes := #[63, 63] })
    (base : Nat) (v : Value) (xs : List UInt8) (hs : a.eval s = v) (hown : OwnB w base v xs) (hx : a.eval x = .slice (some ⟨w.heap.size, 0, none⟩) 1 1)
    (hlen : xs.length ≤ 1099511627776) (hbase : base ≤ w.heap.size) (hy : 0 ≤ y ∧ y ≤ 255)
    (h : ∀ v' w', OwnB w' base v' (xs ++ [UInt8.ofNat y.toNat]) → Below base w w' → wpList Try.prog ops Q rest (a.put o.dst v') w') :
    wpList Try.prog ops Q (o :: rest) a (w.alloc (.cells #[.int .u8 y] 5)) := by
  obtain ⟨i0, hi, hz0, hz1, hz2⟩ := info_parts info_byte
  refine wpList_append_own_at _ hgd s x 63 ho base 5 i0 (.int .u8 0) 1 1 Try.underlying63 hi hz0 hz1 hz2 rfl (by decide) v xs.length (xs.map fun b => Value.int .u8 (b.toNat : Int)) hs (World.ownsRow.alloc hown _)
    ⟨w.heap.size, 0, none⟩ 1 1 [.int .u8 y] hx rfl ?_ ?_ ?_ ?_ ?_ ?_
  · intro j u hj
    match j, hj with
    | 0, hj => simp at hj; subst hj; simp [Addr.add]
  · intro u hu; simp at hu; subst hu; rfl
  · unfold maxLen; omega
  · omega
  · simp; omega
  · intro v' w' h1 h2 h3 h4
    have hg : w.grownBy w' v.ownBlock := ⟨h2.os, h2.tape, h2.output, Nat.le_trans (by simp) h2.size, fun k hk hne => (h2.block k (by simp; omega) hne).trans (heap_alloc_old w _ hk)⟩
    refine h v' w' ?_ ?_
    · have e : ((UInt8.ofNat y.toNat).toNat : Int) = y := by
        have : y.toNat % 256 = y.toNat := by omega
        simp [this]
        omega
      show World.ownsRow _ _ _ _ _ _ _
      rw [List.length_append, List.map_append, List.map_singleton, e]
      exact h1
    · exact (Below.refl _ _).grown hg hbase (fun k hk => (World.ownsRow.lt hown k hk).1)

/-- string(out), out the call's own -/
theorem conv_own (W : World) (base : Nat) (v : Value) (xs : List UInt8) (h : OwnB W base v xs) : (convert 63 9 v).run Try.prog W = .ok (.string ⟨xs.toArray⟩) W := by
  have h' := h
  rcases h.2 with ⟨rfl, h2⟩ | ⟨g, cap, cur, rfl, h4, h5, _⟩
  · have e := List.eq_nil_of_length_eq_zero h2
    subst e
    exact run_convert_bytes_nil W 63 5 Try.underlying63 Try.underlying5 0 0 9 Try.underlying9
  · refine run_convert_bytes_back (P := Try.prog) W 63 9 5 ⟨g, 0, none⟩ cap xs Try.underlying63 Try.underlying5 Try.underlying9 ?_
    intro j hj
    have e : (⟨g, 0, none⟩ : Addr).add j = ⟨g, j, none⟩ := by simp [Addr.add]; omega
    rw [e, World.ownsRow.cellAt h' j (by omega), List.getElem?_map, List.getElem?_eq_getElem hj]
    rfl

theorem textL_two (x : Int) (h0 : 0 ≤ x) (h1 : x < 65536) : textL x.toNat 2 = [UInt8.ofNat (x / 256).toNat] ++ [UInt8.ofNat (x % 256).toNat] := by
  have e1 : (x / 256).toNat = x.toNat / 256 % 256 := by omega
  have e2 : (x % 256).toNat = x.toNat % 256 := by omega
  simp [textL, e1, e2]

set_option maxHeartbeats 1000000 in
theorem Write_calls (xs : List Int) (g cap : Nat) (w : World) (hl : xs.length ≤ 1000) (hx : ∀ i, i < xs.length → 0 ≤ xs.getD i 0 ∧ xs.getD i 0 < 65536) (hi : IsI w g xs) :
    Calls Try.prog 23 #[.slice (some ⟨g, 0, none⟩) xs.length cap] w fun e w' => e = .returned (.string ⟨(textsL 2 xs).toArray⟩) ∧ Up w w' := by
  have HX : Hid _ := hx
  clear hx
  go_enter Try.func23, Try.ntmps23
  go_wp2
  go_loopw [3, 8] (fun v j wr => ∃ k : Nat, k ≤ xs.length ∧ j = .int .i64 (k : Int) ∧ OwnB wr w.heap.size v (textsL 2 (xs.take k)) ∧ Up w wr) (fun _ j _ => xs.length - (intOf j).toNat)
  case atStart => exact ⟨0, Nat.zero_le _, rfl, World.ownsRow_nil _ _ _ _, Up.refl _⟩
  case round =>
    obtain ⟨k, hk, rfl, hown, hu⟩ := hrel
    by_cases hlt : k < xs.length
    · have hc := (hi.up hu).2 k hlt
      have hb := HX.out k hlt
      have H : Hid _ := textL_two (xs.getD k 0) hb.1 hb.2
      have H2 : Hid _ := take_snocI xs k hlt
      have hlen : (textsL 2 (xs.take k)).length ≤ 2000 := by rw [textsL_length]; simp; omega
      generalize xs.getD k 0 = x at hc hb H H2
      have hx1 := hb.1
      have hx2 := hb.2
      clear hb
      go_wp2_with (at_builtin; refine append_byte _ _ rfl (.tmp 12) (.tmp 16) rfl _ _ _ rfl hown rfl (by omega) hu.size (by omega) ?_)
      intro v1 w1 hown1 hb1
      replace hu := Below.trans hu hb1
      clear hown hb1 hc
      go_wp2_with (at_builtin; refine append_byte _ _ rfl (.tmp 18) (.tmp 21) rfl _ _ _ rfl hown1 rfl (by simp; omega) hu.size (by omega) ?_)
      intro v2 w2 hown2 hb2
      clear hown1
      go_wp2
      go_roundw
      case rel => exact ⟨k + 1, by omega, by go_num, by rw [H2.out, textsL_snoc, H.out]; exact hown2, Below.trans hu hb2⟩
      case measure => simp [intOf]; omega
    · obtain rfl : k = xs.length := by omega
      rw [List.take_length] at hown
      have hconv := conv_own wr _ _ _ hown
      go_wp2
      go_ret
      exact ⟨rfl, hu⟩

end Go.Proofs.Ytmijhpogigcofaa
