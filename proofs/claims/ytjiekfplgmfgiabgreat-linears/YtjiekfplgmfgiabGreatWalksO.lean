/-
  Rows in memory, one after the other.
  Walks: the reference's Poly.
-/
import Derived.Test.YtjiekfplgmfgiabGreatWalksM
import Derived.Deep.RegionHeld3
namespace Go.Proofs.YtjiekfplgmfgiabGreat
open Go.RowKit
set_option linter.unusedVariables false

theorem info_ints : (Tryz.prog.info? 39).map (fun i => (i.zero, i.size, i.bytes)) = some (some (.slice none 0 0), 1, 24) := by kernel_rfl

/-- the slice v owns the headers hs -/
abbrev OwnH (w : World) (base : Nat) (v : Value) (hs : List Value) : Prop := w.ownsRow base 39 1 v hs.length hs

theorem OwnH.up {w w' : World} {base : Nat} {v : Value} {xs : List Value} (h : OwnH w base v xs) (hu : Up w w') : OwnH w' base v xs := by
  refine ⟨h.1, ?_⟩
  rcases h.2 with h2 | ⟨g, cap, cur, h3, h4, h5, h6⟩
  · exact Or.inl h2
  · exact Or.inr ⟨g, cap, cur, h3, h4, by rw [hu.block g (Array.getElem?_eq_some_iff.1 h5).1]; exact h5, h6⟩

/-- headers and numbers lie in different blocks -/
theorem own_types {w : World} {base base' : Nat} {v u : Value} {hs : List Value} {xs : List Int} (h : OwnH w base v hs) (k : OwnI w base' u xs) : u.ownBlock = none ∨ u.ownBlock ≠ v.ownBlock := by
  rcases h.2 with ⟨rfl, _⟩ | ⟨g, cap, cur, rfl, _, h5, _⟩
  · rcases k.2 with ⟨rfl, _⟩ | ⟨g', cap', cur', rfl, _, _⟩
    · exact Or.inl rfl
    · exact Or.inr (by simp [Value.ownBlock])
  · rcases k.2 with ⟨rfl, _⟩ | ⟨g', cap', cur', rfl, _, k5, _⟩
    · exact Or.inl rfl
    · refine Or.inr fun c => ?_
      simp only [Value.ownBlock, Option.some.injEq] at c
      rw [c, h5] at k5
      injection k5 with k5
      injection k5 with _ k6
      exact absurd k6 (by decide)

/-- rows = append(rows, r) -/
theorem append_hdr {ops : Array Oper} {rest : List Oper} {o : Oper} {a : Act} {Q : Exit → Act → World → Prop} (w : World) (y : Value) (hy : y.oneCell' = true) (hgd : o.guard = none) (s x : Operand)
    (ho : o.op = .call { callee := .builtin .append, args := #[s, x], argTypes := #[38, 38] })
    (base : Nat) (v : Value) (xs : List Value) (hs : a.eval s = v) (hown : OwnH w base v xs) (hx : a.eval x = .slice (some ⟨w.heap.size, 0, none⟩) 1 1)
    (hlen : xs.length ≤ 1048576) (hbase : base ≤ w.heap.size)
    (h : ∀ v' w', OwnH w' base v' (xs ++ [y]) → w.grownBy w' v.ownBlock → Below base w w' → wpList Tryz.prog ops Q rest (a.put o.dst v') w') :
    wpList Tryz.prog ops Q (o :: rest) a (w.alloc (.cells #[y] 39)) := by
  obtain ⟨i0, hi, hz0, hz1, hz2⟩ := info_parts info_ints
  refine wpList_append_own_at _ hgd s x 38 ho base 39 i0 (.slice none 0 0) 1 24 Tryz.underlying38 hi hz0 hz1 hz2 rfl (by decide) v xs.length xs hs (World.ownsRow.alloc hown _)
    ⟨w.heap.size, 0, none⟩ 1 1 [y] hx rfl ?_ ?_ ?_ ?_ ?_ ?_
  · intro j u hj
    match j, hj with
    | 0, hj => simp at hj; subst hj; simp [Addr.add]
  · intro u hu; simp at hu; subst hu; exact hy
  · unfold maxLen; omega
  · omega
  · simp; omega
  · intro v' w' h1 h2 h3 h4
    have hg : w.grownBy w' v.ownBlock := ⟨h2.os, h2.tape, h2.output, Nat.le_trans (by simp) h2.size, fun k hk hne => (h2.block k (by simp; omega) hne).trans (heap_alloc_old w _ hk)⟩
    refine h v' w' ?_ hg ?_
    · show World.ownsRow _ _ _ _ _ _ _
      rw [List.length_append]
      exact h1
    · exact (Below.refl _ _).grown hg hbase (fun k hk => (World.ownsRow.lt hown k hk).1)

/-- an append of one number at a step of a region that draws -/
theorem step_append_int {ops : Array Oper} {o : Oper} {a : Act} {K : Act → World → Prop} {Q : Exit → Act → World → Prop} {E : Prop} (W : World) (y : Int) (g : Nat) (hgd : o.guard = none) (s x : Operand)
    (ho : o.op = .call { callee := .builtin .append, args := #[s, x], argTypes := #[39, 39] })
    (base : Nat) (v : Value) (xs : List Int) (hs : a.eval s = v) (hown : OwnI W base v xs) (hx : a.eval x = .slice (some ⟨g, 0, none⟩) 1 1) (hc : W.cell? ⟨g, 0, none⟩ = some (.int .i64 y))
    (hlen : xs.length ≤ 1099511627776) (hbase : base ≤ W.heap.size)
    (h : ∀ v' w', OwnI w' base v' (xs ++ [y]) → W.grownBy w' v.ownBlock → Below base W w' → K (a.put o.dst v') w') :
    if Region.wanted o (yielded ops a.tmps) = true then Oper.wp Tryz.prog o a W K Q else E := by
  have hw : Region.wanted o (yielded ops a.tmps) = true := by simp [Region.wanted, hgd]
  rw [if_pos hw]
  obtain ⟨i0, hi, hz0, hz1, hz2⟩ := info_parts info_int
  refine wp_append_own W s x 39 ho base 3 i0 (.int .i64 0) 1 8 Tryz.underlying39 hi hz0 hz1 hz2 rfl (by decide) v xs.length (xs.map (Value.int .i64)) hs hown
    ⟨g, 0, none⟩ 1 1 [.int .i64 y] hx rfl ?_ ?_ ?_ ?_ hbase ?_
  · intro j u hj
    match j, hj with
    | 0, hj => simp at hj; subst hj; simpa [Addr.add] using hc
  · intro u hu; simp at hu; subst hu; rfl
  · unfold maxLen; omega
  · omega
  · intro v' w' h1 h2 h3
    refine h v' w' ?_ h2 ?_
    · simpa [OwnI] using h1
    · exact (Below.refl _ _).grown h2 hbase (fun k hk => (World.ownsRow.lt hown k hk).1)

/-- the first m powers of point j -/
def powL (n t j m : Nat) : List Int := (List.range m).map fun c => pI n t j ^ c % (t : Int)

theorem powL_length (n t j m : Nat) : (powL n t j m).length = m := by simp [powL]

theorem powL_succ (n t j m : Nat) : powL n t j (m + 1) = powL n t j m ++ [pI n t j ^ m % (t : Int)] := by simp [powL, List.range_succ]

/-- row j of the equations -/
def eqL (n t : Nat) (ss : List Int) (j : Nat) : List Int := powL n t j n ++ [ss.getD j 0]

theorem eqL_length (n t : Nat) (ss : List Int) (j : Nat) : (eqL n t ss j).length = n + 1 := by simp [eqL, powL_length]

theorem eqL_getD (n t : Nat) (ss : List Int) (j c : Nat) (hc : c < n + 1) : (eqL n t ss j).getD c 0 = if c < n then pI n t j ^ c % (t : Int) else ss.getD j 0 := by
  unfold eqL
  by_cases h : c < n
  · rw [if_pos h, List.getD_eq_getElem?_getD, List.getElem?_append_left (by rw [powL_length]; exact h), ← List.getD_eq_getElem?_getD]
    unfold powL
    rw [getD_range h]
  · rw [if_neg h]
    obtain rfl : c = n := by omega
    rw [List.getD_eq_getElem?_getD, List.getElem?_append_right (by rw [powL_length]; exact Nat.le_refl _), powL_length]
    simp

/-- the headers of the first k rows -/
def hdL (m : Nat) (gs caps : Nat → Nat) (k : Nat) : List Value := (List.range k).map fun j => Value.slice (some ⟨gs j, 0, none⟩) m (caps j)

theorem hdL_length (m : Nat) (gs caps : Nat → Nat) (k : Nat) : (hdL m gs caps k).length = k := by simp [hdL]

theorem hdL_succ (m : Nat) (gs caps : Nat → Nat) (k : Nat) : hdL m gs caps (k + 1) = hdL m gs caps k ++ [Value.slice (some ⟨gs k, 0, none⟩) m (caps k)] := by simp [hdL, List.range_succ]

theorem hdL_congr {m : Nat} {gs caps gs' caps' : Nat → Nat} {k : Nat} (h : ∀ j, j < k → gs j = gs' j ∧ caps j = caps' j) : hdL m gs caps k = hdL m gs' caps' k := by
  unfold hdL
  refine List.map_congr_left fun j hj => ?_
  obtain ⟨h1, h2⟩ := h j (List.mem_range.1 hj)
  rw [h1, h2]

/-- k rows are laid -/
structure Laid (w : World) (B n t : Nat) (ss : List Int) (rows : Value) (gs caps : Nat → Nat) (k : Nat) : Prop where
  hdr : OwnH w B rows (hdL (n + 1) gs caps k)
  row : ∀ j, j < k → OwnI w B (.slice (some ⟨gs j, 0, none⟩) (n + 1) (caps j)) (eqL n t ss j)
  inj : ∀ j l, j < k → l < k → gs j = gs l → j = l

theorem Laid.up {w w' : World} {B n t : Nat} {ss : List Int} {rows : Value} {gs caps : Nat → Nat} {k : Nat} (h : Laid w B n t ss rows gs caps k) (hu : Up w w') : Laid w' B n t ss rows gs caps k :=
  ⟨h.hdr.up hu, fun j hj => (h.row j hj).up hu, h.inj⟩

theorem OwnI.block_lt {w : World} {base g n cap : Nat} {xs : List Int} (h : OwnI w base (.slice (some ⟨g, 0, none⟩) n cap) xs) : base ≤ g ∧ g < w.heap.size := h.lt g rfl

/-- all rows are laid: a matrix -/
theorem Laid.mat {w : World} {B n t : Nat} {ss : List Int} {rows : Value} {gs caps : Nat → Nat} (h : Laid w B n t ss rows gs caps n) (hn : 0 < n) :
    ∃ H hcap, rows = .slice (some ⟨H, 0, none⟩) n hcap ∧ MatAt w B H n (n + 1) gs caps (fun j c => if c < n then pI n t j ^ c % (t : Int) else ss.getD j 0) := by
  have hh := h.hdr
  rcases hh.2 with ⟨_, h0⟩ | ⟨H, hcap, cur, rfl, hB, h5, _⟩
  · rw [hdL_length] at h0; omega
  · rw [hdL_length]
    refine ⟨H, hcap, rfl, ⟨hB, (Array.getElem?_eq_some_iff.1 h5).1⟩, fun j hj => ⟨(h.row j hj).block_lt.1, (h.row j hj).block_lt.2, ?_⟩, fun j l hj hl e => h.inj j l hj hl e, ?_, fun j hj => ?_, ?_, fun j c hj hc => ?_⟩
    · intro e
      have := own_types hh (h.row j hj)
      simp [Value.ownBlock, e] at this
    · intro j hj
      rw [World.ownsRow.cellAt hh j (by rw [hdL_length]; omega)]
      simp [hdL, hj]
    · exact World.ownsRow.frozenAt hh j
    · intro j c hj hc
      have hr := h.row j hj
      have hl := eqL_length n t ss j
      have hr2 : w.ownsRow B 3 1 (.slice (some ⟨gs j, 0, none⟩) (n + 1) (caps j)) (n + 1) ((eqL n t ss j).map (Value.int .i64)) := by
        have : OwnI w B (.slice (some ⟨gs j, 0, none⟩) (n + 1) (caps j)) (eqL n t ss j) := hr
        unfold OwnI at this
        rw [hl] at this
        exact this
      rw [World.ownsRow.cellAt hr2 c (by omega), List.getElem?_map, ← eqL_getD n t ss j c hc, List.getD_eq_getElem?_getD, List.getElem?_eq_getElem (by omega)]
      rfl
    · have hr := h.row j hj
      have hl := eqL_length n t ss j
      have hr2 : w.ownsRow B 3 1 (.slice (some ⟨gs j, 0, none⟩) (n + 1) (caps j)) (n + 1) ((eqL n t ss j).map (Value.int .i64)) := by
        have : OwnI w B (.slice (some ⟨gs j, 0, none⟩) (n + 1) (caps j)) (eqL n t ss j) := hr
        unfold OwnI at this
        rw [hl] at this
        exact this
      exact World.ownsRow.frozenAt hr2 c

/-- one row more -/
theorem Laid.next {w wx w' : World} {B n t : Nat} {ss : List Int} {rows rows' : Value} {gs caps : Nat → Nat} {k g cap : Nat} (h : Laid w B n t ss rows gs caps k) (hu : Up w wx) (hB : B ≤ w.heap.size)
    (hr : OwnI wx w.heap.size (.slice (some ⟨g, 0, none⟩) (n + 1) cap) (eqL n t ss k))
    (ho : OwnH w' B rows' (hdL (n + 1) gs caps k ++ [.slice (some ⟨g, 0, none⟩) (n + 1) cap])) (hg : wx.grownBy w' rows.ownBlock) :
    Laid w' B n t ss rows' (fun j => if j = k then g else gs j) (fun j => if j = k then cap else caps j) (k + 1) := by
  have hx := h.up hu
  have hgk := hr.block_lt
  refine ⟨?_, ?_, ?_⟩
  · rw [hdL_succ, if_pos rfl, if_pos rfl, hdL_congr (gs' := gs) (caps' := caps) (fun j hj => by rw [if_neg (by omega), if_neg (by omega)]; exact ⟨rfl, rfl⟩)]
    exact ho
  · intro j hj
    by_cases e : j = k
    · subst e
      rw [if_pos rfl, if_pos rfl]
      exact (hr.kept hg (own_types hx.hdr hr)).base hB
    · rw [if_neg e, if_neg e]
      have := hx.row j (by omega)
      exact this.kept hg (own_types hx.hdr this)
  · intro j l hj hl e
    have hlt : ∀ i, i < k → gs i < w.heap.size := fun i hi => (h.row i hi).block_lt.2
    by_cases e1 : j = k
    · by_cases e2 : l = k
      · omega
      · have := hlt l (by omega)
        rw [if_pos e1, if_neg e2] at e
        omega
    · by_cases e2 : l = k
      · have := hlt j (by omega)
        rw [if_neg e1, if_pos e2] at e
        omega
      · rw [if_neg e1, if_neg e2] at e
        exact h.inj j l (by omega) (by omega) e

end Go.Proofs.YtjiekfplgmfgiabGreat

namespace Go.Proofs.YtjiekfplgmfgiabGreat
open Go.RowKit
set_option linter.unusedVariables false

theorem ne_nil_of_length {xs : List Int} {n : Nat} (h : xs.length = n) (hn : 0 < n) : xs ≠ [] := by
  intro c
  subst c
  simp at h
  omega

theorem keepS {B a k c l : Nat} {u v : Value} {W W' : World} (hb : Below B W W') (h1 : a < B) (h2 : c < B) (hS : W.cell? ⟨a, k, none⟩ = some u ∧ W.cell? ⟨c, l, none⟩ = some v) : W'.cell? ⟨a, k, none⟩ = some u ∧ W'.cell? ⟨c, l, none⟩ = some v :=
  ⟨(hb.cell (p := ⟨a, k, none⟩) h1).trans hS.1, (hb.cell (p := ⟨c, l, none⟩) h2).trans hS.2⟩

theorem keepS3 {B a k c l d m : Nat} {u v x : Value} {W W' : World} (hb : Below B W W') (h1 : a < B) (h2 : c < B) (h3 : d < B) (hS : W.cell? ⟨a, k, none⟩ = some u ∧ W.cell? ⟨c, l, none⟩ = some v ∧ W.cell? ⟨d, m, none⟩ = some x) : W'.cell? ⟨a, k, none⟩ = some u ∧ W'.cell? ⟨c, l, none⟩ = some v ∧ W'.cell? ⟨d, m, none⟩ = some x :=
  ⟨(hb.cell (p := ⟨a, k, none⟩) h1).trans hS.1, (hb.cell (p := ⟨c, l, none⟩) h2).trans hS.2.1, (hb.cell (p := ⟨d, m, none⟩) h3).trans hS.2.2⟩

set_option maxRecDepth 100000 in
set_option maxHeartbeats 4000000 in
theorem Poly_calls (n t : Nat) (q b : Int) (ss : List Int) (gx cap : Nat) (w : World) (g : NT n t) (hl : ss.length = n) (hx : ∀ i, i < n → 0 ≤ ss.getD i 0 ∧ ss.getD i 0 < (t : Int)) (hi : IsI w gx ss) :
    Calls Tryz.prog 54 #[.agg #[.int .i64 n, .int .i64 t, .int .i64 q, .int .i64 b], .slice (some ⟨gx, 0, none⟩) n cap] w fun e w' => ∃ v, e = .returned v ∧ OwnI w' w.heap.size v (encI n t ss) ∧ Up w w' := by
  have ht := g.t3
  have ht2 := g.ht
  obtain ⟨hd1, hd2, hd3⟩ := g.half
  have G : Hid (NT n t) := g
  have HX : Hid _ := hx
  have HL : Hid _ := hl
  clear g hx hl
  go_enter Tryz.func54, Tryz.ntmps54
  go_wp2_with fail
  refine (Points_calls n t q b _ G.out).mono ?_
  rintro e w1 ⟨v, rfl, hown, hu⟩
  obtain ⟨gr, cap2, rfl, hgr, his⟩ := hown.is (ne_nil_of_length (ptL_length _ _ _) (by omega))
  rw [ptL_length]
  have hsz : w.heap.size + 1 ≤ w1.heap.size := by have := hu.size; simpa using this
  clear hown
  go_wp2_with fail
  go_loopw [6, 7] (fun rows j wr => ∃ (k : Nat) (gs caps : Nat → Nat), k ≤ n ∧ j = .int .i64 (k : Int) ∧ Laid wr w1.heap.size n t ss rows gs caps k ∧ Up w1 wr) (fun _ j _ => n - (intOf j).toNat)
  case atStart => exact ⟨0, fun _ => 0, fun _ => 0, Nat.zero_le _, rfl, ⟨World.ownsRow_nil _ _ _ _, fun j hj => absurd hj (Nat.not_lt_zero _), fun j l hj => absurd hj (Nat.not_lt_zero _)⟩, Up.refl _⟩
  case round =>
    obtain ⟨k, gs, caps, hk, rfl, hlaid, hu3⟩ := hrel
    obtain ⟨hc, hf⟩ := bcell (hu.trans hu3)
    by_cases hlt : k < n
    · have HP : Hid (∀ W, Up w1 W → W.cell? ⟨gr, k, none⟩ = some (.int .i64 (pI n t k))) := fun W hW => by
        rw [(his.up hW).2 k (by rw [ptL_length]; omega), ptL_getD _ _ _ _ hlt]
      have hb := pI_bounds G.out k hlt
      have hgl : gr < wr.heap.size := Nat.lt_of_lt_of_le his.1 hu3.size
      have hbl : w.heap.size < wr.heap.size := by have := hu3.size; omega
      go_wp2_with fail
      go_loopw [8, 9] (fun r j wx => ∃ m : Nat, m ≤ n ∧ j = .int .i64 (m : Int) ∧ OwnI wx wr.heap.size r (powL n t k m) ∧ Up wr wx) (fun _ j _ => n - (intOf j).toNat)
      case atStart => exact ⟨0, Nat.zero_le _, rfl, World.ownsRow_nil _ _ _ _, Up.refl _⟩
      case round =>
        obtain ⟨m, hm, rfl, hownr, hux⟩ := hrel
        clear hc hf
        obtain ⟨hc, hf⟩ := bcell ((hu.trans hu3).trans hux)
        by_cases hmn : m < n
        · have hcp := HP.out _ (hu3.trans hux)
          have HPW : Hid (powL n t k (m + 1) = powL n t k m ++ [pI n t k ^ m % (t : Int)]) := powL_succ n t k m
          generalize pI n t k = x at hcp hb HPW
          have hb1 := hb.1
          have hb2 := hb.2
          have hct : wr.cell? ⟨w.heap.size, 1, none⟩ = some (.int .i64 (t : Int)) := by rw [hc _ _ (by simp)]; simp
          have hszr : w.heap.size < wr.heap.size := by have := (hu3.trans hux).size; omega
          clear hb
          have hcn : (wr.alloc (.cells #[.int .i64 (x ^ m % (t : Int))] 3)).drew.cell? ⟨wr.heap.size, 0, none⟩ = some (.int .i64 (x ^ m % (t : Int))) := by simp
          have hbs := Nat.le_trans hux.size (Up.drew (Up.alloc (Up.refl wr) (.cells #[.int .i64 (x ^ m % (t : Int))] 3))).size
          go_wp2_with fail
          go_region_held3 (fun w' => w'.cell? ⟨gr, k, none⟩ = some (.int .i64 x) ∧ w'.cell? ⟨w.heap.size, 1, none⟩ = some (.int .i64 (t : Int)))
            (first | go_keep | exact keepS hb4 hgl hbl (by assumption))
            ((first | (go_at_call 60; refine (raised_calls _ _ _ _ (by omega) (by omega) (by omega) (by omega) (by omega) (by omega)).mono ?_; rintro e w' ⟨rfl, rfl⟩) | (refine step_append_int (wr.alloc (.cells #[.int .i64 (x ^ m % (t : Int))] 3)).drew (x ^ m % (t : Int)) wr.heap.size rfl (.tmp 27) (.tmp 36) rfl _ u8 (powL n t k m) rfl (hownr.up (Up.drew (Up.alloc (Up.refl _) _))) rfl hcn (by rw [powL_length]; omega) hbs ?_; intro v4 w4 hown4 hg4 hb4)))
          clear hcn hbs hcp hct hc hf
          go_wp2_with fail
          go_roundw
          case rel => exact ⟨m + 1, by omega, by go_num, by rw [HPW.out]; exact hown4, Below.trans (Up.drew (Below.alloc hux hux.size _)) hb4⟩
          case measure => simp [intOf]; omega
        · obtain rfl : m = n := by omega
          have hcv := (((((hi.up ((Up.refl _).alloc _)).up hu).up hu3).up hux)).2 k (by rw [HL.out]; omega)
          have HEQ : Hid (eqL m t ss k = powL m t k m ++ [ss.getD k 0]) := rfl
          generalize ss.getD k 0 = y at hcv HEQ
          go_wp2_with (at_builtin; refine append_int _ _ rfl (.tmp 38) (.tmp 43) rfl _ _ _ rfl hownr rfl (by rw [powL_length]; omega) hux.size ?_)
          intro v4 w4 hown4 hg4 hb4 _
          rw [← HEQ.out] at hown4
          have hu4 := Below.trans hux hb4
          have hlaid4 := hlaid.up hu4
          obtain ⟨gk, capk, rfl, _, _⟩ := hown4.is (ne_nil_of_length (eqL_length _ _ _ _) (by omega))
          rw [eqL_length] at hown4 ⊢
          clear hownr hg4 hb4 hcv hc hf hux
          go_wp2_with (at_builtin; refine append_hdr _ _ rfl rfl (.tmp 45) (.tmp 47) rfl _ _ _ rfl hlaid4.hdr rfl (by rw [hdL_length]; omega) (hu3.trans hu4).size ?_)
          intro v5 w5 hown5 hg5 hb5
          have hnext := hlaid.next hu4 hu3.size hown4 hown5 hg5
          have hu5 : Up w1 w5 := Below.trans (hu3.trans hu4) hb5
          clear hlaid4 hown4 hown5 hg5 hb5 hu4
          go_wp2_with fail
          go_roundw
          case rel => exact ⟨k + 1, _, _, by omega, by go_num, hnext, hu5⟩
          case measure => simp [intOf]; omega
    · obtain rfl : k = n := by omega
      obtain ⟨H, hcap, rfl, hmat⟩ := hlaid.mat (by omega)
      have hel := Elim.start G.out ss HX.out
      generalize (fun j c => if c < k then pI k t j ^ c % (t : Int) else ss.getD j 0) = A0 at hmat hel
      clear hlaid
      go_wp2_with fail
      go_loopw [10] (fun z wx => ∃ (i : Nat) (gs caps : Nat → Nat) (A : Nat → Nat → Int), i ≤ k ∧ z = .int .i64 (i : Int) ∧ MatAt wx w1.heap.size H k (k + 1) gs caps A ∧ Elim k t (encC k t ss) i A ∧ Up w1 wx) (fun z _ => k - (intOf z).toNat)
      case atStart => exact ⟨0, gs, caps, A0, Nat.zero_le _, rfl, hmat, hel, hu3⟩
      case round =>
        obtain ⟨i, gs2, caps2, A, hik, rfl, hm2, he2, hux⟩ := hrel
        clear hc hf hmat hel
        obtain ⟨hc, hf⟩ := bcell (hu.trans hux)
        by_cases hin : i < k
        · obtain ⟨hp1, hp2, hp3, hp4⟩ := piv_facts G.out he2 hin
          have hinv := inv_fact G.out (A (pivK k t i) i) hp3 (he2.bnd _ _ hp2 (by omega)).2
          have hob1 : 0 ≤ A (pivK k t i) i ^ ((t : Int) - 2).toNat % (t : Int) := Int.emod_nonneg _ (by omega)
          have hob2 : A (pivK k t i) i ^ ((t : Int) - 2).toNat % (t : Int) < (t : Int) := Int.emod_lt_of_pos _ (by omega)
          have hne0 : A (pivK k t i) i ^ ((t : Int) - 2).toNat % (t : Int) ≠ 0 := by
            intro c
            rw [c, Int.mul_zero, Int.zero_emod] at hinv
            omega
          have hstep := he2.step G.out hin
          go_wp2_with fail
          refine (solve_calls k (k + 1) i (pivK k t i) t _ H hcap w1.heap.size gs2 caps2 A _ hm2 hin (by omega) hp1 hp2 hp3 hp4 (fun j c hj hc => he2.bnd j c hj (by omega)) (by omega) (by omega) (by omega) hob2 hinv (by omega) (by omega)).mono ?_
          rintro e w4 ⟨rfl, gs3, caps3, hm3, hb3⟩
          clear hc hf hm2 he2 hinv hob1 hob2 hne0 hp1 hp2 hp3 hp4
          go_wp2_with fail
          go_roundw
          case rel => exact ⟨i + 1, gs3, caps3, _, by omega, by go_num, hm3, hstep, Below.trans hux hb3⟩
          case measure => simp [intOf]; omega
        · obtain rfl : i = k := by omega
          have HEnd : Hid (∀ j, j < i → A j i = encC i t ss j) := fun j hj => he2.end G.out (fun l _ => encC_bounds G.out ss l) j hj
          have hsz4 : w.heap.size < wr.heap.size := by have := hux.size; omega
          have hH4 : H < wr.heap.size := hm2.hH.2
          obtain ⟨M, hM, hm2⟩ : ∃ M, i < M ∧ MatAt wr w1.heap.size H i M gs2 caps2 A := ⟨i + 1, by omega, hm2⟩
          clear he2
          go_wp2_with fail
          go_loopw [11, 12] (fun l z wx => ∃ j : Nat, j ≤ i ∧ z = .int .i64 (j : Int) ∧ OwnI wx wr.heap.size l ((List.range j).map (encC i t ss)) ∧ Up wr wx) (fun _ z _ => i - (intOf z).toNat)
          case atStart => exact ⟨0, Nat.zero_le _, rfl, World.ownsRow_nil _ _ _ _, Up.refl _⟩
          case round =>
            obtain ⟨j, hj, rfl, hownl, huy⟩ := hrel
            clear hc hf
            obtain ⟨hc, hf⟩ := bcell ((hu.trans hux).trans huy)
            by_cases hjn : j < i
            · have hm4 := hm2.up huy
              have hh := hm4.head j hjn
              have hcj := hm4.cell j i hjn (by omega)
              rw [HEnd.out j hjn] at hcj
              have HR : Hid ((List.range (j + 1)).map (encC i t ss) = (List.range j).map (encC i t ss) ++ [encC i t ss j]) := by
                show _ = _
                rw [List.range_succ, List.map_append, List.map_singleton]
              have hgj : gs2 j < wr.heap.size := (hm4.hg j hjn).2.1
              have hgj2 := (hm2.hg j hjn).2.1
              generalize encC i t ss j = x at hcj HR
              have hct : wr.cell? ⟨w.heap.size, 0, none⟩ = some (.int .i64 (i : Int)) := by rw [hc _ _ (by simp)]; simp
              have hcn : (wr.alloc (.cells #[.int .i64 x] 3)).drew.cell? ⟨wr.heap.size, 0, none⟩ = some (.int .i64 x) := by simp
              have hbs := Nat.le_trans huy.size (Up.drew (Up.alloc (Up.refl wr) (.cells #[.int .i64 x] 3))).size
              have hi0 : (0 : Int) ≤ (i : Int) := by omega
              have hi1 : (i : Int) < (M : Int) := by omega
              have hi2 : ¬ ((i : Int) < 0) := by omega
              have hj0 : (0 : Int) ≤ (j : Int) := by omega
              have hj1 : (j : Int) < (i : Int) := by omega
              clear hm4
              go_wp2_with fail
              go_region_held3 (fun w' => w'.cell? ⟨H, j, none⟩ = some (.slice (some ⟨gs2 j, 0, none⟩) M (caps2 j)) ∧ w'.cell? ⟨w.heap.size, 0, none⟩ = some (.int .i64 (i : Int)) ∧ w'.cell? ⟨gs2 j, i, none⟩ = some (.int .i64 x))
                (first | go_keep | exact keepS3 hb4 hH4 hsz4 hgj2 (by assumption))
                ((first | (refine step_append_int (wr.alloc (.cells #[.int .i64 x] 3)).drew x wr.heap.size rfl (.tmp 66) (.tmp 75) rfl _ u11 ((List.range j).map (encC i t ss)) rfl (hownl.up (Up.drew (Up.alloc (Up.refl _) _))) rfl hcn (by simp; omega) hbs ?_; intro v4 w4 hown4 hg4 hb4)))
              clear hcn hbs hct hc hf hh hcj
              go_wp2_with fail
              go_roundw
              case rel => exact ⟨j + 1, by omega, by go_num, by rw [HR.out]; exact hown4, Below.trans (Up.drew (Below.alloc huy huy.size _)) hb4⟩
              case measure => simp [intOf]; omega
            · obtain rfl : j = i := by omega
              go_wp2_with fail
              go_ret
              exact ⟨_, rfl, hownl.base (by omega), (((Up.refl _).alloc _).trans hu).trans (hux.trans huy)⟩

end Go.Proofs.YtjiekfplgmfgiabGreat
