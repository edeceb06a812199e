/-
  Walks: the reference's session: its state behind all steps.
  Walks: the reference's session: New, Step, Shares, Output.
  Walks: the reference's session: Output, New.
-/
import Derived.Test.YtcjhgbljhpflfabGreatWalksSa
namespace Go.Proofs.YtcjhgbljhpflfabGreat
open Go.RowKit
set_option linter.unusedVariables false
set_option maxRecDepth 100000

set_option maxHeartbeats 1000000 in
theorem none_calls (n : Nat) (t q b : Int) (w : World) (hn : n ≤ 16) :
    Calls Tryz.prog 146 #[.agg #[.int .i64 n, .int .i64 t, .int .i64 q, .int .i64 b]] w fun e w' => e = .returned (.string ⟨(textsL 2 (zeroI n)).toArray⟩) ∧ Up w w' := by
  obtain ⟨f0, hi0, hz0, hz1, hz2⟩ := info_parts info_int
  have HTx : Hid (∀ g c W, IsI W g (zeroI n) → Calls Tryz.prog 50 #[.slice (some ⟨g, 0, none⟩) n c, .int .i64 2] W fun e w' => e = .returned (.string ⟨(textsL 2 (zeroI n)).toArray⟩) ∧ Up W w') := fun g c W hi => by
    have := Texts_calls (zeroI n) g c 2 W (by omega) (by rw [zeroI_length]; omega) (fun i hi => by rw [zeroI_length] at hi; have := zeroI_lt n 1 (by omega) i hi; omega) hi
    rw [zeroI_length] at this
    exact this
  go_enter Tryz.func146, Tryz.ntmps146
  go_wp2_with (at_make; refine wpList_make_full _ rfl _ _ 54 rfl (w.alloc (.cells #[.int .i64 n, .int .i64 t, .int .i64 q, .int .i64 b] 23)).heap.size 3 f0 (.int .i64 0) 1 Tryz.underlying54 hi0 hz0 hz1 .i64 .i64 _ _ n rfl rfl rfl rfl (by rw [hz2]; omega) (by unfold maxLen; omega) (Nat.le_refl _) ?_)
  intro w1 hown1 hg1
  have ho1 := made_row hown1 (fun _ => 0) (fun _ => rfl)
  have hu1 := Up.made hg1
  have iz := OwnI.isI ho1
  rw [show ((List.range n).map fun _ => (0 : Int)) = zeroI n from rfl] at iz
  clear hown1 hg1 ho1 hi0 hz0 hz1 hz2
  go_wp2_with fail
  refine Calls.mono (HTx.out _ _ _ iz) ?_
  rintro e w2 ⟨rfl, hu2⟩
  go_wp2_with fail
  go_ret
  exact ⟨rfl, (((Up.refl _).alloc _).trans hu1).trans hu2⟩

/-- one step more -/
def nextS (D : Dat) (k : Nat) (s : St) (d : List UInt8) : St := if k % 4 = 0 then s.sent D d else if k % 4 = 1 then s.answered D (k / 4) d else if k % 4 = 2 then s.opened D else s.bent D (k / 4) d

/-- where a session stands behind k steps -/
def playN (D : Dat) (s0 : St) (ds : List ByteArray) : Nat → St
  | 0 => s0
  | k + 1 => nextS D k (playN D s0 ds k) ((ds.getD k ⟨#[]⟩).data.toList)

theorem playN_snoc (D : Dat) (s0 : St) (ds : List ByteArray) (d : ByteArray) (k : Nat) (hk : k ≤ ds.length) : playN D s0 (ds ++ [d]) k = playN D s0 ds k := by
  induction k with
  | zero => rfl
  | succ k ih =>
    rw [playN, playN, ih (by omega)]
    congr 3
    rw [List.getD_eq_getElem?_getD, List.getD_eq_getElem?_getD, List.getElem?_append_left (by omega)]

theorem playN_last (D : Dat) (s0 : St) (ds : List ByteArray) (d : ByteArray) : playN D s0 (ds ++ [d]) (ds.length + 1) = nextS D ds.length (playN D s0 ds ds.length) d.data.toList := by
  rw [playN, playN_snoc D s0 ds d _ (Nat.le_refl _)]
  congr 3
  simp

/-- all steps that were done were good ones -/
structure Done (D : Dat) (s0 : St) (ds : List ByteArray) : Prop where
  ok : ∀ k, k ≤ ds.length → (playN D s0 ds k).Ok D (k % 4)
  lay : ∀ k, k < ds.length → k / 4 < D.N
  fit : ∀ k, k < ds.length → k % 4 = 1 → (linS1 D (k / 4) (playN D s0 ds k) ((ds.getD k ⟨#[]⟩).data.toList)).2 = 0
  len : ∀ k, k < ds.length → (ds.getD k ⟨#[]⟩).size ≤ maxLen

theorem Done.le {D : Dat} {s0 : St} {ds : List ByteArray} (h : Done D s0 ds) (O : D.Ok) : ds.length ≤ 12 := by
  rcases Nat.eq_zero_or_pos ds.length with h0 | h0
  · omega
  · have := h.lay (ds.length - 1) (by omega)
    have := O.N1.2
    omega

/-- the reference's state as a value -/
abbrev refV (s : St) (e : Int) : Value := .agg #[.string ⟨(textsL 2 s.cl).toArray⟩, .string ⟨(textsL 2 s.sv).toArray⟩, .string ⟨s.y.toArray⟩, .int .i64 e]

/-- a step of a session that is not at its end -/
theorem stepped_in (R : Nat) (D : Dat) (k : Nat) (s : St) (d : ByteArray) (e0 : Int) (net key turn input : ByteArray) (vd : Value) (w : World) (hd : d.size ≤ maxLen) (O : D.Ok) (I : D.Is net key turn) (hs : s.Ok D (k % 4)) (hj : k / 4 < D.N) (hz : k % 4 = 1 → (linS1 D (k / 4) s d.data.toList).2 = 0) (h : RC w R D.n D.t D.q D.b net key turn input vd) :
    Calls Tryz.prog 115 #[.pointer (some ⟨R, 0, none⟩), refV s e0, .int .i64 (k : Int), .string d] w fun e w' => e = .returned (refV (nextS D k s d.data.toList) 0) ∧ Up w w' := by
  rcases (show k % 4 = 0 ∨ k % 4 = 1 ∨ k % 4 = 2 ∨ k % 4 = 3 by omega) with hr | hr | hr | hr
  · rw [hr] at hs
    have := stepped_0 R D (k / 4) s d e0 net key turn input vd w hd O I hs hj h
    rw [show (4 * ((k / 4 : Nat) : Int)) = (k : Int) by omega] at this
    unfold nextS
    rw [if_pos hr]
    exact this
  · rw [hr] at hs
    have := stepped_1y R D (k / 4) s d e0 net key turn input vd w hd O I hs hj (hz hr) h
    rw [show (4 * ((k / 4 : Nat) : Int) + 1) = (k : Int) by omega] at this
    unfold nextS
    rw [if_neg (by omega), if_pos hr]
    exact this
  · rw [hr] at hs
    have := stepped_2 R D (k / 4) s d e0 net key turn input vd w hd O I hs hj h
    rw [show (4 * ((k / 4 : Nat) : Int) + 2) = (k : Int) by omega] at this
    unfold nextS
    rw [if_neg (by omega), if_neg (by omega), if_pos hr]
    exact this
  · rw [hr] at hs
    have := stepped_3 R D (k / 4) s d e0 net key turn input vd w hd O I hs hj h
    rw [show (4 * ((k / 4 : Nat) : Int) + 3) = (k : Int) by omega] at this
    unfold nextS
    rw [if_neg (by omega), if_neg (by omega), if_neg (by omega)]
    exact this

theorem far_cell4r {W : World} {G g o : Nat} {x0 x1 x2 x3 : Value} (h : G ≠ g) : ((((W.setCell ⟨G, 0, none⟩ x0).setCell ⟨G, 1, none⟩ x1).setCell ⟨G, 2, none⟩ x2).setCell ⟨G, 3, none⟩ x3).cell? ⟨g, o, none⟩ = W.cell? ⟨g, o, none⟩ := far_cell4 h

/-- the texts of the draws in memory -/
abbrev OwnS (w : World) (v : Value) (ds : List ByteArray) : Prop := w.ownsRow 0 9 1 v ds.length (ds.map Value.string)

theorem OwnS.cell {w : World} {g cap : Nat} {ds : List ByteArray} (h : OwnS w (.slice (some ⟨g, 0, none⟩) ds.length cap) ds) (k : Nat) (hk : k < ds.length) : w.cell? ⟨g, k, none⟩ = some (.string (ds.getD k ⟨#[]⟩)) := by
  have hc := World.ownsRow.cellAt h k (by omega)
  rw [hc, List.getElem?_map, List.getD_eq_getElem?_getD, List.getElem?_eq_getElem hk]
  rfl

set_option maxHeartbeats 8000000 in
theorem played_calls (R : Nat) (D : Dat) (ds : List ByteArray) (net key turn input : ByteArray) (vd : Value) (w : World) (O : D.Ok) (I : D.Is net key turn) (hin : okL input.data.toList D.n 2 D.t = true) (hdn : Done D (St.begin D.n input.data.toList) ds) (h : RC w R D.n D.t D.q D.b net key turn input vd) (ho : OwnS w vd ds) :
    Calls Tryz.prog 116 #[.pointer (some ⟨R, 0, none⟩)] w fun e w' => e = .returned (refV (playN D (St.begin D.n input.data.toList) ds ds.length) 0) ∧ Up w w' := by
  have hhf := O.nt.half
  have hle := hdn.le O
  have HNo : Hid _ := fun W => none_calls D.n D.t D.q D.b W (by omega)
  have eI : input = ⟨(textsL 2 (St.begin D.n input.data.toList).cl).toArray⟩ := by
    show input = ⟨(textsL 2 (numsL input.data.toList 2 D.n)).toArray⟩
    rw [texts_nums _ _ _ hin]
  have HS0 : Hid (playN D (St.begin D.n input.data.toList) ds 0 = St.begin D.n input.data.toList) := rfl
  have HSt : Hid (∀ k W e0, k < ds.length → RC W R D.n D.t D.q D.b net key turn input vd → Calls Tryz.prog 115 #[.pointer (some ⟨R, 0, none⟩), refV (playN D (St.begin D.n input.data.toList) ds k) e0, .int .i64 (k : Int), .string (ds.getD k ⟨#[]⟩)] W fun e w' => e = .returned (refV (playN D (St.begin D.n input.data.toList) ds (k + 1)) 0) ∧ Up W w') := fun k W e0 hk hR =>
    stepped_in R D k _ (ds.getD k ⟨#[]⟩) e0 net key turn input vd W (hdn.len k hk) O I (hdn.ok k (by omega)) (hdn.lay k hk) (hdn.fit k hk) hR
  have HB0 : Hid ((St.begin D.n input.data.toList).sv = zeroI D.n ∧ (St.begin D.n input.data.toList).y = []) := ⟨rfl, rfl⟩
  have HeI : Hid _ := eI
  generalize St.begin D.n input.data.toList = S0 at HS0 HSt HB0 HeI ⊢
  generalize playN D S0 ds = P at HS0 HSt ⊢
  have HR : Hid _ := h
  have HO : Hid _ := ho
  have hRn := h.lt
  have r0 := h.c0
  have r1 := h.c1
  have r2 := h.c2
  have r3 := h.c3
  have r7 := h.c7
  clear hdn hin eI h ho
  obtain ⟨W, hW⟩ : ∃ W, W = w.alloc (.cells #[.string ⟨#[]⟩, .string ⟨#[]⟩, .string ⟨#[]⟩, .int .i64 0] 164) := ⟨_, rfl⟩
  have huW : Up w W := by rw [hW]; exact (Up.refl _).alloc _
  have KR : Hid (W.cell? ⟨w.heap.size, 0, none⟩ = some (.string ⟨#[]⟩) ∧ W.cell? ⟨w.heap.size, 1, none⟩ = some (.string ⟨#[]⟩) ∧ W.cell? ⟨w.heap.size, 2, none⟩ = some (.string ⟨#[]⟩) ∧ W.cell? ⟨w.heap.size, 3, none⟩ = some (.int .i64 0)) := by
    show _ ∧ _ ∧ _ ∧ _
    rw [hW]
    exact ⟨by simp [go_sem], by simp [go_sem], by simp [go_sem], by simp [go_sem]⟩
  have KZ : Hid (∀ o, W.frozen? ⟨w.heap.size, o, none⟩ = false) := show ∀ o, W.frozen? ⟨w.heap.size, o, none⟩ = false from fun o => by rw [hW]; simp [go_sem]
  have HsW : Hid (W.heap.size = w.heap.size + 1) := show W.heap.size = w.heap.size + 1 by rw [hW]; simp
  have hRW2 : R < W.heap.size := by have := HsW.out; omega
  have hRW := HR.out.up huW
  have q0 := hRW.c0
  have q1 := hRW.c1
  have q2 := hRW.c2
  have q3 := hRW.c3
  have q7 := hRW.c7
  clear hRW r0 r1 r2 r3 r7
  go_enter Tryz.func116, Tryz.ntmps116
  go_wp2_with fail
  rw [← hW]
  clear hW
  refine wp_region_noPanic ?_
  refine wp_region_held_drew (S := (fun w' => w'.cell? ⟨R, 0, none⟩ = some (.int .i64 (D.n : Int)) ∧ w'.cell? ⟨R, 1, none⟩ = some (.int .i64 (D.t : Int)) ∧ w'.cell? ⟨R, 2, none⟩ = some (.int .i64 D.q) ∧ w'.cell? ⟨R, 3, none⟩ = some (.int .i64 D.b) ∧ w'.cell? ⟨R, 7, none⟩ = some (.string input))) (by kernel_rfl) ?_ (fun hHeld => ?_)
  · exact ⟨q0, q1, q2, q3, q7⟩
  refine wpAnyH_take (i := 0) (oi := { dst := some 5, op := Op.move (Operand.tmp 0), type := 39, pos := "net.go:262", after := #[], guard := none }) (v := ?_) rfl (by kernel_rfl) (by kernel_rfl) (by kernel_rfl) (fun _ _ _ h => h) (Or.inl ⟨by rfl, ?_⟩) (by assumption) ?_
  rotate_left
  · (intro w hSw; (try dsimp only at hSw); go_simp; try with_reducible rfl)
  try simp only [Act.put, List.setIfInBounds_toArray, List.set_cons_zero, List.set_cons_succ]
  refine wpAnyH_take (i := 1) (oi := { dst := some 6, op := Op.nilCheck (Operand.tmp 5), type := 0, pos := "net.go:262", after := #[{ on := 0, ground := Ground.data }], guard := none }) (v := ?_) rfl (by kernel_rfl) (by kernel_rfl) (by kernel_rfl) (fun _ _ _ h => h) (Or.inl ⟨by rfl, ?_⟩) (by assumption) ?_
  rotate_left
  · (intro w hSw; (try dsimp only at hSw); go_simp; try with_reducible rfl)
  try simp only [Act.put, List.setIfInBounds_toArray, List.set_cons_zero, List.set_cons_succ]
  refine wpAnyH_take (i := 2) (oi := { dst := some 7, op := Op.fieldAddr 162 (Operand.tmp 6) 4, type := 0, pos := "net.go:262", after := #[{ on := 1, ground := Ground.data }], guard := none }) (v := ?_) rfl (by kernel_rfl) (by kernel_rfl) (by kernel_rfl) (fun _ _ _ h => h) (Or.inl ⟨by rfl, ?_⟩) (by assumption) ?_
  rotate_left
  · (intro w hSw; (try dsimp only at hSw); go_simp; try with_reducible rfl)
  try simp only [Act.put, List.setIfInBounds_toArray, List.set_cons_zero, List.set_cons_succ]
  refine wpAnyH_take (i := 3) (oi := { dst := some 8, op := Op.load 9 (Operand.tmp 7), type := 9, pos := "net.go:262", after := #[{ on := 2, ground := Ground.data }], guard := none }) (v := ?_) rfl (by kernel_rfl) (by kernel_rfl) (by kernel_rfl) (fun _ _ _ h => h) (Or.inl ⟨by rfl, ?_⟩) (by assumption) ?_
  rotate_left
  · (intro w hSw; (try dsimp only at hSw); go_simp; try with_reducible rfl)
  try simp only [Act.put, List.setIfInBounds_toArray, List.set_cons_zero, List.set_cons_succ]
  refine wpAnyH_take (i := 4) (oi := { dst := some 9, op := Op.move (Operand.tmp 0), type := 39, pos := "net.go:262", after := #[], guard := none }) (v := ?_) rfl (by kernel_rfl) (by kernel_rfl) (by kernel_rfl) (fun _ _ _ h => h) (Or.inl ⟨by rfl, ?_⟩) (by assumption) ?_
  rotate_left
  · (intro w hSw; (try dsimp only at hSw); go_simp; try with_reducible rfl)
  try simp only [Act.put, List.setIfInBounds_toArray, List.set_cons_zero, List.set_cons_succ]
  refine wpAnyH_take (i := 5) (oi := { dst := some 10, op := Op.nilCheck (Operand.tmp 9), type := 0, pos := "net.go:262", after := #[{ on := 4, ground := Ground.data }], guard := none }) (v := ?_) rfl (by kernel_rfl) (by kernel_rfl) (by kernel_rfl) (fun _ _ _ h => h) (Or.inl ⟨by rfl, ?_⟩) (by assumption) ?_
  rotate_left
  · (intro w hSw; (try dsimp only at hSw); go_simp; try with_reducible rfl)
  try simp only [Act.put, List.setIfInBounds_toArray, List.set_cons_zero, List.set_cons_succ]
  refine wpAnyH_take (i := 6) (oi := { dst := some 11, op := Op.fieldAddr 162 (Operand.tmp 10) 0, type := 0, pos := "net.go:262", after := #[{ on := 5, ground := Ground.data }], guard := none }) (v := ?_) rfl (by kernel_rfl) (by kernel_rfl) (by kernel_rfl) (fun _ _ _ h => h) (Or.inl ⟨by rfl, ?_⟩) (by assumption) ?_
  rotate_left
  · (intro w hSw; (try dsimp only at hSw); go_simp; try with_reducible rfl)
  try simp only [Act.put, List.setIfInBounds_toArray, List.set_cons_zero, List.set_cons_succ]
  refine wpAnyH_take (i := 7) (oi := { dst := some 12, op := Op.load 23 (Operand.tmp 11), type := 23, pos := "net.go:262", after := #[{ on := 6, ground := Ground.data }], guard := none }) (v := ?_) rfl (by kernel_rfl) (by kernel_rfl) (by kernel_rfl) (fun _ _ _ h => h) (Or.inl ⟨by rfl, ?_⟩) (by assumption) ?_
  rotate_left
  · (intro w hSw; (try dsimp only at hSw); go_simp; try with_reducible rfl)
  try simp only [Act.put, List.setIfInBounds_toArray, List.set_cons_zero, List.set_cons_succ]
  refine wpAnyH_ready (rs := [8, 10]) (by kernel_rfl) (by simp) ?_
  refine AllReadyH.cons (o := { dst := some 13, op := Op.call { callee := Callee.value (Operand.func 146), args := #[Operand.tmp 12], argTypes := #[23] }, type := 9, pos := "net.go:262", after := #[{ on := 7, ground := Ground.data }], guard := none }) rfl (fun K hK => ?_) ?_
  · go_simp
    refine Calls.mono (HNo.out _) ?_
    rintro r w2 ⟨rfl, hu2⟩
    have hu12 : Up W w2 := Up.trans (Up.drew (Up.refl _)) hu2
    go_wp2_with fail
    refine hK.out _ _ ?_ (fun hHeld2 => ?_)
    · exact keepC5 hu2 hHeld
    clear hHeld
    have hHeld := hHeld2
    clear hHeld2
    clear hK K
    try simp only [Act.put, List.setIfInBounds_toArray, List.set_cons_zero, List.set_cons_succ]
    refine wpAnyH_take (i := 9) (oi := { dst := some 14, op := Op.build 164 #[(0, Operand.tmp 8), (1, Operand.tmp 13)], type := 164, pos := "net.go:262", after := #[{ on := 3, ground := Ground.data }, { on := 8, ground := Ground.data }], guard := none }) (v := ?_) rfl (by kernel_rfl) (by kernel_rfl) (by kernel_rfl) (fun _ _ _ h => h) (Or.inl ⟨by rfl, ?_⟩) (by assumption) ?_
    rotate_left
    · (intro w hSw; (try dsimp only at hSw); go_simp; try with_reducible rfl)
    try simp only [Act.put, List.setIfInBounds_toArray, List.set_cons_zero, List.set_cons_succ]
    refine wpAnyH_ready (rs := [10]) (by kernel_rfl) (by simp) ?_
    refine AllReadyH.cons (o := { dst := some 3, op := Op.alloc 164, type := 0, pos := "net.go:262", after := #[], guard := none }) rfl (fun K hK => ?_) ?_
    · go_simp
      refine hK.out _ _ ?_ (fun hHeld2 => ?_)
      · exact keepC5 (Up.alloc (Up.refl _) _) hHeld
      clear hHeld
      have hHeld := hHeld2
      clear hHeld2
      clear hK K
      try simp only [Act.put, List.setIfInBounds_toArray, List.set_cons_zero, List.set_cons_succ]
      refine wpAnyH_ready (rs := [11]) (by kernel_rfl) (by simp) ?_
      refine AllReadyH.cons (o := { dst := none, op := Op.store 164 (Operand.tmp 3) (Operand.tmp 14), type := 0, pos := "net.go:262", after := #[{ on := 10, ground := Ground.data }, { on := 9, ground := Ground.data }, { on := 8, ground := Ground.chain }, { on := 0, ground := Ground.phase }, { on := 1, ground := Ground.phase }, { on := 2, ground := Ground.phase }, { on := 3, ground := Ground.phase }, { on := 4, ground := Ground.phase }, { on := 5, ground := Ground.phase }, { on := 6, ground := Ground.phase }, { on := 7, ground := Ground.phase }, { on := 8, ground := Ground.phase }, { on := 9, ground := Ground.phase }, { on := 10, ground := Ground.phase }], guard := none }) rfl (fun K hK => ?_) ?_
      · go_simp
        refine hK.out _ _ ?_ (fun hHeld2 => ?_)
        · exact keepC5 (Up.alloc hu12 _) ⟨q0, q1, q2, q3, q7⟩
        clear hHeld
        have hHeld := hHeld2
        clear hHeld2
        clear hK K
        try simp only [Act.put, List.setIfInBounds_toArray, List.set_cons_zero, List.set_cons_succ]
        refine wpAnyH_done (by kernel_rfl) ?_ _
        refine NoPanic.normal ?_
        have b0 : (w2.alloc (.cells #[.string input, .string ⟨(textsL 2 (zeroI D.n)).toArray⟩, .string ⟨#[]⟩, .int .i64 0] 164)).cell? ⟨w2.heap.size, 0, none⟩ = some (.string input) := by simp
        have b1 : (w2.alloc (.cells #[.string input, .string ⟨(textsL 2 (zeroI D.n)).toArray⟩, .string ⟨#[]⟩, .int .i64 0] 164)).cell? ⟨w2.heap.size, 1, none⟩ = some (.string ⟨(textsL 2 (zeroI D.n)).toArray⟩) := by simp
        have b2 : (w2.alloc (.cells #[.string input, .string ⟨(textsL 2 (zeroI D.n)).toArray⟩, .string ⟨#[]⟩, .int .i64 0] 164)).cell? ⟨w2.heap.size, 2, none⟩ = some (.string ⟨#[]⟩) := by simp
        have b3 : (w2.alloc (.cells #[.string input, .string ⟨(textsL 2 (zeroI D.n)).toArray⟩, .string ⟨#[]⟩, .int .i64 0] 164)).cell? ⟨w2.heap.size, 3, none⟩ = some (.int .i64 0) := by simp
        have bz : ∀ o, (w2.alloc (.cells #[.string input, .string ⟨(textsL 2 (zeroI D.n)).toArray⟩, .string ⟨#[]⟩, .int .i64 0] 164)).frozen? ⟨w2.heap.size, o, none⟩ = false := fun o => by simp
        have hm : Up W (w2.alloc (.cells #[.string input, .string ⟨(textsL 2 (zeroI D.n)).toArray⟩, .string ⟨#[]⟩, .int .i64 0] 164)) := hu12.alloc _
        have hSB : W.heap.size ≤ w2.heap.size := hu12.size
        have hA0 := keepC4 hm KR.out
        have hAz0 : ∀ o, (w2.alloc (.cells #[.string input, .string ⟨(textsL 2 (zeroI D.n)).toArray⟩, .string ⟨#[]⟩, .int .i64 0] 164)).frozen? ⟨w.heap.size, o, none⟩ = false := fun o => frozen_upN hm KR.out.1 (KZ.out o)
        generalize (w2.alloc (.cells #[.string input, .string ⟨(textsL 2 (zeroI D.n)).toArray⟩, .string ⟨#[]⟩, .int .i64 0] 164)) = W3 at b0 b1 b2 b3 bz hm hA0 hAz0 ⊢
        generalize w2.heap.size = SB at b0 b1 b2 b3 bz hSB ⊢
        replace hSB : w.heap.size + 1 ≤ SB := by have := HsW.out; omega
        clear hHeld hu2 hu12 q0 q1 q2 q3 q7
        skip
        have hm0 : Below w.heap.size w W3 := huW.trans hm
        have i0 : W3.cell? ⟨SB, 0, none⟩ = some (.string ⟨(textsL 2 (P 0).cl).toArray⟩) := by rw [HS0.out, ← HeI.out]; exact b0
        have i1 : W3.cell? ⟨SB, 1, none⟩ = some (.string ⟨(textsL 2 (P 0).sv).toArray⟩) := by rw [HS0.out, HB0.out.1]; exact b1
        have i2 : W3.cell? ⟨SB, 2, none⟩ = some (.string ⟨(P 0).y.toArray⟩) := by rw [HS0.out, HB0.out.2]; exact b2
        clear b0 b1 b2
        go_wp2_with fail
        go_loopw [4] (fun sj wr => ∃ k : Nat, k ≤ ds.length ∧ sj = .int .i64 (k : Int) ∧ wr.cell? ⟨SB, 0, none⟩ = some (.string ⟨(textsL 2 (P k).cl).toArray⟩) ∧ wr.cell? ⟨SB, 1, none⟩ = some (.string ⟨(textsL 2 (P k).sv).toArray⟩) ∧ wr.cell? ⟨SB, 2, none⟩ = some (.string ⟨(P k).y.toArray⟩) ∧ wr.cell? ⟨SB, 3, none⟩ = some (.int .i64 0) ∧ (∀ o, wr.frozen? ⟨SB, o, none⟩ = false) ∧ (wr.cell? ⟨w.heap.size, 0, none⟩ = some (.string ⟨#[]⟩) ∧ wr.cell? ⟨w.heap.size, 1, none⟩ = some (.string ⟨#[]⟩) ∧ wr.cell? ⟨w.heap.size, 2, none⟩ = some (.string ⟨#[]⟩) ∧ wr.cell? ⟨w.heap.size, 3, none⟩ = some (.int .i64 0)) ∧ (∀ o, wr.frozen? ⟨w.heap.size, o, none⟩ = false) ∧ Below w.heap.size w wr) (fun sj _ => ds.length - (intOf sj).toNat)
        case atStart => exact ⟨0, Nat.zero_le _, rfl, i0, i1, i2, b3, bz, hA0, hAz0, hm0⟩
        case round =>
          clear i0 i1 i2 b3 bz hA0 hAz0 hm0 hm
          obtain ⟨k, hk, rfl, b0, b1, b2, b3, bz, hA, hAz, hu⟩ := hrel
          have hRr : RC wr R D.n D.t D.q D.b net key turn input vd := HR.out.up hu
          have hOr : OwnS wr vd ds := row_up HO.out hu
          have HA : Hid _ := hA
          have HAz : Hid _ := hAz
          by_cases hlt : k < ds.length
          · obtain ⟨gd, cd, cur, rfl, _⟩ : ∃ gd cd cur, vd = .slice (some ⟨gd, 0, none⟩) ds.length cd ∧ wr.heap[gd]? = some (.cells cur 9 (0, 0)) := by
              rcases hOr.2 with ⟨_, h0⟩ | ⟨g, cap, cur, e, _, h5, _⟩
              · omega
              · exact ⟨g, cap, cur, e, h5⟩
            have dc := OwnS.cell hOr k hlt
            have d8 := hRr.c8
            have HSk : Hid _ := fun W e0 => HSt.out k W e0 hlt
            obtain ⟨n, hn⟩ : ∃ n, n = ds.length := ⟨_, rfl⟩
            rw [← hn] at d8 hlt hk
            have HN : Hid _ := hn
            have hn12 : n ≤ 12 := by omega
            obtain ⟨C0, hC0⟩ : ∃ c : ByteArray, c = ⟨(textsL 2 (P k).cl).toArray⟩ := ⟨_, rfl⟩
            obtain ⟨V0, hV0⟩ : ∃ c : ByteArray, c = ⟨(textsL 2 (P k).sv).toArray⟩ := ⟨_, rfl⟩
            obtain ⟨Y0, hY0⟩ : ∃ c : ByteArray, c = ⟨(P k).y.toArray⟩ := ⟨_, rfl⟩
            obtain ⟨C1, hC1⟩ : ∃ c : ByteArray, c = ⟨(textsL 2 (P (k + 1)).cl).toArray⟩ := ⟨_, rfl⟩
            obtain ⟨V1, hV1⟩ : ∃ c : ByteArray, c = ⟨(textsL 2 (P (k + 1)).sv).toArray⟩ := ⟨_, rfl⟩
            obtain ⟨Y1, hY1⟩ : ∃ c : ByteArray, c = ⟨(P (k + 1)).y.toArray⟩ := ⟨_, rfl⟩
            have HC1 : Hid _ := hC1
            have HV1 : Hid _ := hV1
            have HY1 : Hid _ := hY1
            rw [← hC0] at b0
            rw [← hV0] at b1
            rw [← hY0] at b2
            unfold refV at HSk
            rw [← hC0, ← hV0, ← hY0, ← hC1, ← hV1, ← hY1] at HSk
            generalize ds.getD k ⟨#[]⟩ = dk at dc HSk
            clear hC0 hV0 hY0 hC1 hV1 hY1 hn hOr
            have hlt2 : (k : Int) < (n : Int) := by omega
            have hk0 : (0 : Int) ≤ (k : Int) := by omega
            have hgd : gd < w.heap.size := by have := (OwnS.cell HO.out k (by rw [← HN.out]; exact hlt)); exact World.block_lt_of_cell? w ⟨gd, k, none⟩ this
            go_wp2_with fail
            refine wp_region_noPanic ?_
            refine wp_region_held_drew (S := (fun w' => w'.cell? ⟨R, 8, none⟩ = some (.slice (some ⟨gd, 0, none⟩) n cd) ∧ w'.cell? ⟨gd, k, none⟩ = some (.string dk))) (by kernel_rfl) ?_ (fun hHeld => ?_)
            · exact ⟨d8, dc⟩
            refine wpAnyH_take (i := 0) (oi := { dst := some 24, op := Op.move (Operand.tmp 0), type := 39, pos := "net.go:264", after := #[], guard := none }) (v := ?_) rfl (by kernel_rfl) (by kernel_rfl) (by kernel_rfl) (fun _ _ _ h => h) (Or.inl ⟨by rfl, ?_⟩) (by assumption) ?_
            rotate_left
            · (intro w hSw; (try dsimp only at hSw); go_simp; try with_reducible rfl)
            try simp only [Act.put, List.setIfInBounds_toArray, List.set_cons_zero, List.set_cons_succ]
            refine wpAnyH_take (i := 2) (oi := { dst := some 26, op := Op.move (Operand.tmp 4), type := 3, pos := "net.go:264", after := #[], guard := none }) (v := ?_) rfl (by kernel_rfl) (by kernel_rfl) (by kernel_rfl) (fun _ _ _ h => h) (Or.inl ⟨by rfl, ?_⟩) (by assumption) ?_
            rotate_left
            · (intro w hSw; (try dsimp only at hSw); go_simp; try with_reducible rfl)
            try simp only [Act.put, List.setIfInBounds_toArray, List.set_cons_zero, List.set_cons_succ]
            refine wpAnyH_take (i := 3) (oi := { dst := some 27, op := Op.move (Operand.tmp 0), type := 39, pos := "net.go:264", after := #[], guard := none }) (v := ?_) rfl (by kernel_rfl) (by kernel_rfl) (by kernel_rfl) (fun _ _ _ h => h) (Or.inl ⟨by rfl, ?_⟩) (by assumption) ?_
            rotate_left
            · (intro w hSw; (try dsimp only at hSw); go_simp; try with_reducible rfl)
            try simp only [Act.put, List.setIfInBounds_toArray, List.set_cons_zero, List.set_cons_succ]
            refine wpAnyH_take (i := 4) (oi := { dst := some 28, op := Op.nilCheck (Operand.tmp 27), type := 0, pos := "net.go:264", after := #[{ on := 3, ground := Ground.data }], guard := none }) (v := ?_) rfl (by kernel_rfl) (by kernel_rfl) (by kernel_rfl) (fun _ _ _ h => h) (Or.inl ⟨by rfl, ?_⟩) (by assumption) ?_
            rotate_left
            · (intro w hSw; (try dsimp only at hSw); go_simp; try with_reducible rfl)
            try simp only [Act.put, List.setIfInBounds_toArray, List.set_cons_zero, List.set_cons_succ]
            refine wpAnyH_take (i := 5) (oi := { dst := some 29, op := Op.fieldAddr 162 (Operand.tmp 28) 5, type := 0, pos := "net.go:264", after := #[{ on := 4, ground := Ground.data }], guard := none }) (v := ?_) rfl (by kernel_rfl) (by kernel_rfl) (by kernel_rfl) (fun _ _ _ h => h) (Or.inl ⟨by rfl, ?_⟩) (by assumption) ?_
            rotate_left
            · (intro w hSw; (try dsimp only at hSw); go_simp; try with_reducible rfl)
            try simp only [Act.put, List.setIfInBounds_toArray, List.set_cons_zero, List.set_cons_succ]
            refine wpAnyH_take (i := 6) (oi := { dst := some 30, op := Op.load 50 (Operand.tmp 29), type := 50, pos := "net.go:264", after := #[{ on := 5, ground := Ground.data }], guard := none }) (v := ?_) rfl (by kernel_rfl) (by kernel_rfl) (by kernel_rfl) (fun _ _ _ h => h) (Or.inl ⟨by rfl, ?_⟩) (by assumption) ?_
            rotate_left
            · (intro w hSw; (try dsimp only at hSw); go_simp; try with_reducible rfl)
            try simp only [Act.put, List.setIfInBounds_toArray, List.set_cons_zero, List.set_cons_succ]
            refine wpAnyH_take (i := 7) (oi := { dst := some 31, op := Op.move (Operand.tmp 4), type := 3, pos := "net.go:264", after := #[], guard := none }) (v := ?_) rfl (by kernel_rfl) (by kernel_rfl) (by kernel_rfl) (fun _ _ _ h => h) (Or.inl ⟨by rfl, ?_⟩) (by assumption) ?_
            rotate_left
            · (intro w hSw; (try dsimp only at hSw); go_simp; try with_reducible rfl)
            try simp only [Act.put, List.setIfInBounds_toArray, List.set_cons_zero, List.set_cons_succ]
            refine wpAnyH_take (i := 8) (oi := { dst := some 32, op := Op.indexAddr 50 (Operand.tmp 30) (Operand.tmp 31), type := 0, pos := "net.go:264", after := #[{ on := 6, ground := Ground.data }, { on := 7, ground := Ground.data }], guard := none }) (v := ?_) rfl (by kernel_rfl) (by kernel_rfl) (by kernel_rfl) (fun _ _ _ h => h) (Or.inl ⟨by rfl, ?_⟩) (by assumption) ?_
            rotate_left
            · (intro w hSw; (try dsimp only at hSw); go_simp; try with_reducible rfl)
            try simp only [Act.put, List.setIfInBounds_toArray, List.set_cons_zero, List.set_cons_succ]
            refine wpAnyH_take (i := 9) (oi := { dst := some 33, op := Op.load 9 (Operand.tmp 32), type := 9, pos := "net.go:264", after := #[{ on := 8, ground := Ground.data }], guard := none }) (v := ?_) rfl (by kernel_rfl) (by kernel_rfl) (by kernel_rfl) (fun _ _ _ h => h) (Or.inl ⟨by rfl, ?_⟩) (by assumption) ?_
            rotate_left
            · (intro w hSw; (try dsimp only at hSw); go_simp; try with_reducible rfl)
            try simp only [Act.put, List.setIfInBounds_toArray, List.set_cons_zero, List.set_cons_succ]
            refine wpAnyH_ready (rs := [1]) (by kernel_rfl) (by simp) ?_
            refine AllReadyH.cons (o := { dst := some 25, op := Op.load 164 (Operand.tmp 3), type := 164, pos := "net.go:264", after := #[], guard := none }) rfl (fun K hK => ?_) ?_
            · go_simp
              refine hK.out _ _ ?_ (fun hHeld2 => ?_)
              · exact hHeld
              clear hHeld
              have hHeld := hHeld2
              clear hHeld2
              clear hK K
              try simp only [Act.put, List.setIfInBounds_toArray, List.set_cons_zero, List.set_cons_succ]
              refine wpAnyH_ready (rs := [10]) (by kernel_rfl) (by simp) ?_
              refine AllReadyH.cons (o := { dst := some 34, op := Op.call { callee := Callee.value (Operand.func 115), args := #[Operand.tmp 24, Operand.tmp 25, Operand.tmp 26, Operand.tmp 33], argTypes := #[39, 164, 3, 9] }, type := 164, pos := "net.go:264", after := #[{ on := 0, ground := Ground.data }, { on := 1, ground := Ground.data }, { on := 2, ground := Ground.data }, { on := 9, ground := Ground.data }], guard := none }) rfl (fun K hK => ?_) ?_
              · go_simp
                refine Calls.mono (HSk.out _ _ (hRr.up (Up.drew (Up.refl _)))) ?_
                rintro r w5 ⟨rfl, hu5⟩
                have hu15 : Up wr w5 := Up.trans (Up.drew (Up.refl _)) hu5
                have hg0 := keepC hu15 b0
                have hg1 := keepC hu15 b1
                have hg2 := keepC hu15 b2
                have hg3 := keepC hu15 b3
                have hzg : ∀ o, w5.frozen? ⟨SB, o, none⟩ = false := fun o => frozen_upN hu15 b0 (bz o)
                go_wp2_with fail
                refine hK.out _ _ ?_ (fun hHeld2 => ?_)
                · exact ⟨keepC hu5 hHeld.1, keepC hu5 hHeld.2⟩
                clear hHeld
                have hHeld := hHeld2
                clear hHeld2
                clear hK K
                try simp only [Act.put, List.setIfInBounds_toArray, List.set_cons_zero, List.set_cons_succ]
                refine wpAnyH_ready (rs := [11]) (by kernel_rfl) (by simp) ?_
                refine AllReadyH.cons (o := { dst := none, op := Op.store 164 (Operand.tmp 3) (Operand.tmp 34), type := 0, pos := "net.go:264", after := #[{ on := 10, ground := Ground.data }, { on := 10, ground := Ground.chain }, { on := 0, ground := Ground.phase }, { on := 1, ground := Ground.phase }, { on := 2, ground := Ground.phase }, { on := 3, ground := Ground.phase }, { on := 4, ground := Ground.phase }, { on := 5, ground := Ground.phase }, { on := 6, ground := Ground.phase }, { on := 7, ground := Ground.phase }, { on := 8, ground := Ground.phase }, { on := 9, ground := Ground.phase }, { on := 10, ground := Ground.phase }], guard := none }) rfl (fun K hK => ?_) ?_
                · go_simp
                  refine hK.out _ _ ?_ (fun hHeld2 => ?_)
                  · exact ⟨(far_cell4 (by omega)).trans hHeld.1, (far_cell4 (by omega)).trans hHeld.2⟩
                  clear hHeld
                  have hHeld := hHeld2
                  clear hHeld2
                  clear hK K
                  try simp only [Act.put, List.setIfInBounds_toArray, List.set_cons_zero, List.set_cons_succ]
                  refine wpAnyH_done (by kernel_rfl) ?_ _
                  refine NoPanic.normal ?_
                  obtain ⟨e0, e1, e2, e3⟩ := same_cell4 (x0 := .string C1) (x1 := .string V1) (x2 := .string Y1) (x3 := .int .i64 0) hg0 hg1 hg2 hg3
                  have hm : Below w.heap.size w ((((w5.setCell ⟨SB, 0, none⟩ (.string C1)).setCell ⟨SB, 1, none⟩ (.string V1)).setCell ⟨SB, 2, none⟩ (.string Y1)).setCell ⟨SB, 3, none⟩ (.int .i64 0)) := (((Below.setCell (Below.trans hu (hu15.mono (by have := hu.size; omega))) (by dsimp only; omega) _).setCell (by dsimp only; omega) _).setCell (by dsimp only; omega) _).setCell (by dsimp only; omega) _
                  have hz5 : ∀ o, ((((w5.setCell ⟨SB, 0, none⟩ (.string C1)).setCell ⟨SB, 1, none⟩ (.string V1)).setCell ⟨SB, 2, none⟩ (.string Y1)).setCell ⟨SB, 3, none⟩ (.int .i64 0)).frozen? ⟨SB, o, none⟩ = false := fun o => by rw [World.frozen?_setCell, World.frozen?_setCell, World.frozen?_setCell, World.frozen?_setCell]; exact hzg o
                  have ha : ((((w5.setCell ⟨SB, 0, none⟩ (.string C1)).setCell ⟨SB, 1, none⟩ (.string V1)).setCell ⟨SB, 2, none⟩ (.string Y1)).setCell ⟨SB, 3, none⟩ (.int .i64 0)).cell? ⟨w.heap.size, 0, none⟩ = some (.string ⟨#[]⟩) ∧ ((((w5.setCell ⟨SB, 0, none⟩ (.string C1)).setCell ⟨SB, 1, none⟩ (.string V1)).setCell ⟨SB, 2, none⟩ (.string Y1)).setCell ⟨SB, 3, none⟩ (.int .i64 0)).cell? ⟨w.heap.size, 1, none⟩ = some (.string ⟨#[]⟩) ∧ ((((w5.setCell ⟨SB, 0, none⟩ (.string C1)).setCell ⟨SB, 1, none⟩ (.string V1)).setCell ⟨SB, 2, none⟩ (.string Y1)).setCell ⟨SB, 3, none⟩ (.int .i64 0)).cell? ⟨w.heap.size, 2, none⟩ = some (.string ⟨#[]⟩) ∧ ((((w5.setCell ⟨SB, 0, none⟩ (.string C1)).setCell ⟨SB, 1, none⟩ (.string V1)).setCell ⟨SB, 2, none⟩ (.string Y1)).setCell ⟨SB, 3, none⟩ (.int .i64 0)).cell? ⟨w.heap.size, 3, none⟩ = some (.int .i64 0) := ⟨(far_cell4 (by omega)).trans (keepC hu15 hA.1), (far_cell4 (by omega)).trans (keepC hu15 hA.2.1), (far_cell4 (by omega)).trans (keepC hu15 hA.2.2.1), (far_cell4 (by omega)).trans (keepC hu15 hA.2.2.2)⟩
                  have haz : ∀ o, ((((w5.setCell ⟨SB, 0, none⟩ (.string C1)).setCell ⟨SB, 1, none⟩ (.string V1)).setCell ⟨SB, 2, none⟩ (.string Y1)).setCell ⟨SB, 3, none⟩ (.int .i64 0)).frozen? ⟨w.heap.size, o, none⟩ = false := fun o => by rw [World.frozen?_setCell, World.frozen?_setCell, World.frozen?_setCell, World.frozen?_setCell]; exact frozen_upN hu15 hA.1 (hAz o)
                  generalize ((((w5.setCell ⟨SB, 0, none⟩ (.string C1)).setCell ⟨SB, 1, none⟩ (.string V1)).setCell ⟨SB, 2, none⟩ (.string Y1)).setCell ⟨SB, 3, none⟩ (.int .i64 0)) = W5 at e0 e1 e2 e3 hm hz5 ha haz ⊢
                  clear hHeld hu5 hu15 hg0 hg1 hg2 hg3 hzg b0 b1 b2 b3 bz d8 dc
                  go_wp2_with fail
                  go_roundw
                  case rel => exact ⟨k + 1, (by have := HN.out; omega), by go_num, by rw [e0, HC1.out], by rw [e1, HV1.out], by rw [e2, HY1.out], e3, hz5, ha, haz, hm⟩
                  case measure => have := HN.out; simp [intOf]; omega
                exact AllReadyH.nil
              exact AllReadyH.nil
            exact AllReadyH.nil
          · obtain rfl : k = ds.length := by omega
            have d8 := hRr.c8
            obtain ⟨p, cd, hvd⟩ : ∃ p cd, vd = .slice p ds.length cd := by
              rcases hOr.2 with ⟨e, h0⟩ | ⟨g, cap, cur, e, _⟩
              · exact ⟨none, 0, by rw [e, h0]⟩
              · exact ⟨_, _, e⟩
            rw [hvd] at d8
            clear hRr hOr hvd
            obtain ⟨C0, hC0⟩ : ∃ c : ByteArray, c = ⟨(textsL 2 (P ds.length).cl).toArray⟩ := ⟨_, rfl⟩
            obtain ⟨V0, hV0⟩ : ∃ c : ByteArray, c = ⟨(textsL 2 (P ds.length).sv).toArray⟩ := ⟨_, rfl⟩
            obtain ⟨Y0, hY0⟩ : ∃ c : ByteArray, c = ⟨(P ds.length).y.toArray⟩ := ⟨_, rfl⟩
            have HC0 : Hid _ := hC0
            have HV0 : Hid _ := hV0
            have HY0 : Hid _ := hY0
            rw [← hC0] at b0
            rw [← hV0] at b1
            rw [← hY0] at b2
            obtain ⟨a0, a1, a2, a3⟩ := HA.out
            clear hC0 hV0 hY0 hA
            go_wp2_with fail
            refine bodyPost_ret (v := .agg #[.string C0, .string V0, .string Y0, .int .i64 0]) (by simp [results, Tryz.results116, go_sem, a0, a1, a2, a3]) rfl ⟨by rw [HC0.out, HV0.out, HY0.out], ?_⟩
            iterate 4 (refine Below.setCell ?_ (by dsimp only; omega) _)
            exact hu
      exact AllReadyH.nil
    exact AllReadyH.nil
  refine AllReadyH.cons (o := { dst := some 3, op := Op.alloc 164, type := 0, pos := "net.go:262", after := #[], guard := none }) rfl (fun K hK => ?_) ?_
  · go_simp
    refine hK.out _ _ ?_ (fun hHeld2 => ?_)
    · exact keepC5 (Up.drew (Up.alloc (Up.refl W) _)) ⟨q0, q1, q2, q3, q7⟩
    clear hHeld
    have hHeld := hHeld2
    clear hHeld2
    clear hK K
    try simp only [Act.put, List.setIfInBounds_toArray, List.set_cons_zero, List.set_cons_succ]
    refine wpAnyH_ready (rs := [8]) (by kernel_rfl) (by simp) ?_
    refine AllReadyH.cons (o := { dst := some 13, op := Op.call { callee := Callee.value (Operand.func 146), args := #[Operand.tmp 12], argTypes := #[23] }, type := 9, pos := "net.go:262", after := #[{ on := 7, ground := Ground.data }], guard := none }) rfl (fun K hK => ?_) ?_
    · go_simp
      refine Calls.mono (HNo.out _) ?_
      rintro r w2 ⟨rfl, hu2⟩
      have hu12 : Up W w2 := Up.trans (Up.drew (Up.alloc (Up.refl _) _)) hu2
      have hg0 := keepC (p := ⟨W.heap.size, 0, none⟩) hu2 (by simp; rfl)
      have hg1 := keepC (p := ⟨W.heap.size, 1, none⟩) hu2 (by simp; rfl)
      have hg2 := keepC (p := ⟨W.heap.size, 2, none⟩) hu2 (by simp; rfl)
      have hg3 := keepC (p := ⟨W.heap.size, 3, none⟩) hu2 (by simp; rfl)
      have hzg : ∀ o, w2.frozen? ⟨W.heap.size, o, none⟩ = false := fun o => frozen_upN hu2 (by simp; rfl) (by simp)
      go_wp2_with fail
      refine hK.out _ _ ?_ (fun hHeld2 => ?_)
      · exact keepC5 hu2 hHeld
      clear hHeld
      have hHeld := hHeld2
      clear hHeld2
      clear hK K
      try simp only [Act.put, List.setIfInBounds_toArray, List.set_cons_zero, List.set_cons_succ]
      refine wpAnyH_take (i := 9) (oi := { dst := some 14, op := Op.build 164 #[(0, Operand.tmp 8), (1, Operand.tmp 13)], type := 164, pos := "net.go:262", after := #[{ on := 3, ground := Ground.data }, { on := 8, ground := Ground.data }], guard := none }) (v := ?_) rfl (by kernel_rfl) (by kernel_rfl) (by kernel_rfl) (fun _ _ _ h => h) (Or.inl ⟨by rfl, ?_⟩) (by assumption) ?_
      rotate_left
      · (intro w hSw; (try dsimp only at hSw); go_simp; try with_reducible rfl)
      try simp only [Act.put, List.setIfInBounds_toArray, List.set_cons_zero, List.set_cons_succ]
      refine wpAnyH_ready (rs := [11]) (by kernel_rfl) (by simp) ?_
      refine AllReadyH.cons (o := { dst := none, op := Op.store 164 (Operand.tmp 3) (Operand.tmp 14), type := 0, pos := "net.go:262", after := #[{ on := 10, ground := Ground.data }, { on := 9, ground := Ground.data }, { on := 8, ground := Ground.chain }, { on := 0, ground := Ground.phase }, { on := 1, ground := Ground.phase }, { on := 2, ground := Ground.phase }, { on := 3, ground := Ground.phase }, { on := 4, ground := Ground.phase }, { on := 5, ground := Ground.phase }, { on := 6, ground := Ground.phase }, { on := 7, ground := Ground.phase }, { on := 8, ground := Ground.phase }, { on := 9, ground := Ground.phase }, { on := 10, ground := Ground.phase }], guard := none }) rfl (fun K hK => ?_) ?_
      · go_simp
        refine hK.out _ _ ?_ (fun hHeld2 => ?_)
        · exact ⟨(far_cell4 (by omega)).trans hHeld.1, (far_cell4 (by omega)).trans hHeld.2.1, (far_cell4 (by omega)).trans hHeld.2.2.1, (far_cell4 (by omega)).trans hHeld.2.2.2.1, (far_cell4 (by omega)).trans hHeld.2.2.2.2⟩
        clear hHeld
        have hHeld := hHeld2
        clear hHeld2
        clear hK K
        try simp only [Act.put, List.setIfInBounds_toArray, List.set_cons_zero, List.set_cons_succ]
        refine wpAnyH_done (by kernel_rfl) ?_ _
        refine NoPanic.normal ?_
        obtain ⟨b0, b1, b2, b3⟩ := same_cell4 (x0 := .string input) (x1 := .string ⟨(textsL 2 (zeroI D.n)).toArray⟩) (x2 := .string ⟨#[]⟩) (x3 := .int .i64 0) hg0 hg1 hg2 hg3
        have bz : ∀ o, ((((w2.setCell ⟨W.heap.size, 0, none⟩ (.string input)).setCell ⟨W.heap.size, 1, none⟩ (.string ⟨(textsL 2 (zeroI D.n)).toArray⟩)).setCell ⟨W.heap.size, 2, none⟩ (.string ⟨#[]⟩)).setCell ⟨W.heap.size, 3, none⟩ (.int .i64 0)).frozen? ⟨W.heap.size, o, none⟩ = false := fun o => by rw [World.frozen?_setCell, World.frozen?_setCell, World.frozen?_setCell, World.frozen?_setCell]; exact hzg o
        have hm : Up W ((((w2.setCell ⟨W.heap.size, 0, none⟩ (.string input)).setCell ⟨W.heap.size, 1, none⟩ (.string ⟨(textsL 2 (zeroI D.n)).toArray⟩)).setCell ⟨W.heap.size, 2, none⟩ (.string ⟨#[]⟩)).setCell ⟨W.heap.size, 3, none⟩ (.int .i64 0)) := (((hu12.setCell (by simp) _).setCell (by simp) _).setCell (by simp) _).setCell (by simp) _
        have hSB : W.heap.size ≤ W.heap.size := Nat.le_refl _
        have hA0 := keepC4 hm KR.out
        have hAz0 : ∀ o, ((((w2.setCell ⟨W.heap.size, 0, none⟩ (.string input)).setCell ⟨W.heap.size, 1, none⟩ (.string ⟨(textsL 2 (zeroI D.n)).toArray⟩)).setCell ⟨W.heap.size, 2, none⟩ (.string ⟨#[]⟩)).setCell ⟨W.heap.size, 3, none⟩ (.int .i64 0)).frozen? ⟨w.heap.size, o, none⟩ = false := fun o => frozen_upN hm KR.out.1 (KZ.out o)
        generalize ((((w2.setCell ⟨W.heap.size, 0, none⟩ (.string input)).setCell ⟨W.heap.size, 1, none⟩ (.string ⟨(textsL 2 (zeroI D.n)).toArray⟩)).setCell ⟨W.heap.size, 2, none⟩ (.string ⟨#[]⟩)).setCell ⟨W.heap.size, 3, none⟩ (.int .i64 0)) = W3 at b0 b1 b2 b3 bz hm hA0 hAz0 ⊢
        obtain ⟨SB, hSBe⟩ : ∃ G, G = W.heap.size := ⟨_, rfl⟩
        rw [← hSBe] at b0 b1 b2 b3 bz hSB ⊢
        replace hSB : w.heap.size + 1 ≤ SB := by have := HsW.out; omega
        clear hSBe
        clear hHeld hu2 hu12 q0 q1 q2 q3 q7
        clear hg0 hg1 hg2 hg3 hzg
        have hm0 : Below w.heap.size w W3 := huW.trans hm
        have i0 : W3.cell? ⟨SB, 0, none⟩ = some (.string ⟨(textsL 2 (P 0).cl).toArray⟩) := by rw [HS0.out, ← HeI.out]; exact b0
        have i1 : W3.cell? ⟨SB, 1, none⟩ = some (.string ⟨(textsL 2 (P 0).sv).toArray⟩) := by rw [HS0.out, HB0.out.1]; exact b1
        have i2 : W3.cell? ⟨SB, 2, none⟩ = some (.string ⟨(P 0).y.toArray⟩) := by rw [HS0.out, HB0.out.2]; exact b2
        clear b0 b1 b2
        go_wp2_with fail
        go_loopw [4] (fun sj wr => ∃ k : Nat, k ≤ ds.length ∧ sj = .int .i64 (k : Int) ∧ wr.cell? ⟨SB, 0, none⟩ = some (.string ⟨(textsL 2 (P k).cl).toArray⟩) ∧ wr.cell? ⟨SB, 1, none⟩ = some (.string ⟨(textsL 2 (P k).sv).toArray⟩) ∧ wr.cell? ⟨SB, 2, none⟩ = some (.string ⟨(P k).y.toArray⟩) ∧ wr.cell? ⟨SB, 3, none⟩ = some (.int .i64 0) ∧ (∀ o, wr.frozen? ⟨SB, o, none⟩ = false) ∧ (wr.cell? ⟨w.heap.size, 0, none⟩ = some (.string ⟨#[]⟩) ∧ wr.cell? ⟨w.heap.size, 1, none⟩ = some (.string ⟨#[]⟩) ∧ wr.cell? ⟨w.heap.size, 2, none⟩ = some (.string ⟨#[]⟩) ∧ wr.cell? ⟨w.heap.size, 3, none⟩ = some (.int .i64 0)) ∧ (∀ o, wr.frozen? ⟨w.heap.size, o, none⟩ = false) ∧ Below w.heap.size w wr) (fun sj _ => ds.length - (intOf sj).toNat)
        case atStart => exact ⟨0, Nat.zero_le _, rfl, i0, i1, i2, b3, bz, hA0, hAz0, hm0⟩
        case round =>
          clear i0 i1 i2 b3 bz hA0 hAz0 hm0 hm
          obtain ⟨k, hk, rfl, b0, b1, b2, b3, bz, hA, hAz, hu⟩ := hrel
          have hRr : RC wr R D.n D.t D.q D.b net key turn input vd := HR.out.up hu
          have hOr : OwnS wr vd ds := row_up HO.out hu
          have HA : Hid _ := hA
          have HAz : Hid _ := hAz
          by_cases hlt : k < ds.length
          · obtain ⟨gd, cd, cur, rfl, _⟩ : ∃ gd cd cur, vd = .slice (some ⟨gd, 0, none⟩) ds.length cd ∧ wr.heap[gd]? = some (.cells cur 9 (0, 0)) := by
              rcases hOr.2 with ⟨_, h0⟩ | ⟨g, cap, cur, e, _, h5, _⟩
              · omega
              · exact ⟨g, cap, cur, e, h5⟩
            have dc := OwnS.cell hOr k hlt
            have d8 := hRr.c8
            have HSk : Hid _ := fun W e0 => HSt.out k W e0 hlt
            obtain ⟨n, hn⟩ : ∃ n, n = ds.length := ⟨_, rfl⟩
            rw [← hn] at d8 hlt hk
            have HN : Hid _ := hn
            have hn12 : n ≤ 12 := by omega
            obtain ⟨C0, hC0⟩ : ∃ c : ByteArray, c = ⟨(textsL 2 (P k).cl).toArray⟩ := ⟨_, rfl⟩
            obtain ⟨V0, hV0⟩ : ∃ c : ByteArray, c = ⟨(textsL 2 (P k).sv).toArray⟩ := ⟨_, rfl⟩
            obtain ⟨Y0, hY0⟩ : ∃ c : ByteArray, c = ⟨(P k).y.toArray⟩ := ⟨_, rfl⟩
            obtain ⟨C1, hC1⟩ : ∃ c : ByteArray, c = ⟨(textsL 2 (P (k + 1)).cl).toArray⟩ := ⟨_, rfl⟩
            obtain ⟨V1, hV1⟩ : ∃ c : ByteArray, c = ⟨(textsL 2 (P (k + 1)).sv).toArray⟩ := ⟨_, rfl⟩
            obtain ⟨Y1, hY1⟩ : ∃ c : ByteArray, c = ⟨(P (k + 1)).y.toArray⟩ := ⟨_, rfl⟩
            have HC1 : Hid _ := hC1
            have HV1 : Hid _ := hV1
            have HY1 : Hid _ := hY1
            rw [← hC0] at b0
            rw [← hV0] at b1
            rw [← hY0] at b2
            unfold refV at HSk
            rw [← hC0, ← hV0, ← hY0, ← hC1, ← hV1, ← hY1] at HSk
            generalize ds.getD k ⟨#[]⟩ = dk at dc HSk
            clear hC0 hV0 hY0 hC1 hV1 hY1 hn hOr
            have hlt2 : (k : Int) < (n : Int) := by omega
            have hk0 : (0 : Int) ≤ (k : Int) := by omega
            have hgd : gd < w.heap.size := by have := (OwnS.cell HO.out k (by rw [← HN.out]; exact hlt)); exact World.block_lt_of_cell? w ⟨gd, k, none⟩ this
            go_wp2_with fail
            refine wp_region_noPanic ?_
            refine wp_region_held_drew (S := (fun w' => w'.cell? ⟨R, 8, none⟩ = some (.slice (some ⟨gd, 0, none⟩) n cd) ∧ w'.cell? ⟨gd, k, none⟩ = some (.string dk))) (by kernel_rfl) ?_ (fun hHeld => ?_)
            · exact ⟨d8, dc⟩
            refine wpAnyH_take (i := 0) (oi := { dst := some 24, op := Op.move (Operand.tmp 0), type := 39, pos := "net.go:264", after := #[], guard := none }) (v := ?_) rfl (by kernel_rfl) (by kernel_rfl) (by kernel_rfl) (fun _ _ _ h => h) (Or.inl ⟨by rfl, ?_⟩) (by assumption) ?_
            rotate_left
            · (intro w hSw; (try dsimp only at hSw); go_simp; try with_reducible rfl)
            try simp only [Act.put, List.setIfInBounds_toArray, List.set_cons_zero, List.set_cons_succ]
            refine wpAnyH_take (i := 2) (oi := { dst := some 26, op := Op.move (Operand.tmp 4), type := 3, pos := "net.go:264", after := #[], guard := none }) (v := ?_) rfl (by kernel_rfl) (by kernel_rfl) (by kernel_rfl) (fun _ _ _ h => h) (Or.inl ⟨by rfl, ?_⟩) (by assumption) ?_
            rotate_left
            · (intro w hSw; (try dsimp only at hSw); go_simp; try with_reducible rfl)
            try simp only [Act.put, List.setIfInBounds_toArray, List.set_cons_zero, List.set_cons_succ]
            refine wpAnyH_take (i := 3) (oi := { dst := some 27, op := Op.move (Operand.tmp 0), type := 39, pos := "net.go:264", after := #[], guard := none }) (v := ?_) rfl (by kernel_rfl) (by kernel_rfl) (by kernel_rfl) (fun _ _ _ h => h) (Or.inl ⟨by rfl, ?_⟩) (by assumption) ?_
            rotate_left
            · (intro w hSw; (try dsimp only at hSw); go_simp; try with_reducible rfl)
            try simp only [Act.put, List.setIfInBounds_toArray, List.set_cons_zero, List.set_cons_succ]
            refine wpAnyH_take (i := 4) (oi := { dst := some 28, op := Op.nilCheck (Operand.tmp 27), type := 0, pos := "net.go:264", after := #[{ on := 3, ground := Ground.data }], guard := none }) (v := ?_) rfl (by kernel_rfl) (by kernel_rfl) (by kernel_rfl) (fun _ _ _ h => h) (Or.inl ⟨by rfl, ?_⟩) (by assumption) ?_
            rotate_left
            · (intro w hSw; (try dsimp only at hSw); go_simp; try with_reducible rfl)
            try simp only [Act.put, List.setIfInBounds_toArray, List.set_cons_zero, List.set_cons_succ]
            refine wpAnyH_take (i := 5) (oi := { dst := some 29, op := Op.fieldAddr 162 (Operand.tmp 28) 5, type := 0, pos := "net.go:264", after := #[{ on := 4, ground := Ground.data }], guard := none }) (v := ?_) rfl (by kernel_rfl) (by kernel_rfl) (by kernel_rfl) (fun _ _ _ h => h) (Or.inl ⟨by rfl, ?_⟩) (by assumption) ?_
            rotate_left
            · (intro w hSw; (try dsimp only at hSw); go_simp; try with_reducible rfl)
            try simp only [Act.put, List.setIfInBounds_toArray, List.set_cons_zero, List.set_cons_succ]
            refine wpAnyH_take (i := 6) (oi := { dst := some 30, op := Op.load 50 (Operand.tmp 29), type := 50, pos := "net.go:264", after := #[{ on := 5, ground := Ground.data }], guard := none }) (v := ?_) rfl (by kernel_rfl) (by kernel_rfl) (by kernel_rfl) (fun _ _ _ h => h) (Or.inl ⟨by rfl, ?_⟩) (by assumption) ?_
            rotate_left
            · (intro w hSw; (try dsimp only at hSw); go_simp; try with_reducible rfl)
            try simp only [Act.put, List.setIfInBounds_toArray, List.set_cons_zero, List.set_cons_succ]
            refine wpAnyH_take (i := 7) (oi := { dst := some 31, op := Op.move (Operand.tmp 4), type := 3, pos := "net.go:264", after := #[], guard := none }) (v := ?_) rfl (by kernel_rfl) (by kernel_rfl) (by kernel_rfl) (fun _ _ _ h => h) (Or.inl ⟨by rfl, ?_⟩) (by assumption) ?_
            rotate_left
            · (intro w hSw; (try dsimp only at hSw); go_simp; try with_reducible rfl)
            try simp only [Act.put, List.setIfInBounds_toArray, List.set_cons_zero, List.set_cons_succ]
            refine wpAnyH_take (i := 8) (oi := { dst := some 32, op := Op.indexAddr 50 (Operand.tmp 30) (Operand.tmp 31), type := 0, pos := "net.go:264", after := #[{ on := 6, ground := Ground.data }, { on := 7, ground := Ground.data }], guard := none }) (v := ?_) rfl (by kernel_rfl) (by kernel_rfl) (by kernel_rfl) (fun _ _ _ h => h) (Or.inl ⟨by rfl, ?_⟩) (by assumption) ?_
            rotate_left
            · (intro w hSw; (try dsimp only at hSw); go_simp; try with_reducible rfl)
            try simp only [Act.put, List.setIfInBounds_toArray, List.set_cons_zero, List.set_cons_succ]
            refine wpAnyH_take (i := 9) (oi := { dst := some 33, op := Op.load 9 (Operand.tmp 32), type := 9, pos := "net.go:264", after := #[{ on := 8, ground := Ground.data }], guard := none }) (v := ?_) rfl (by kernel_rfl) (by kernel_rfl) (by kernel_rfl) (fun _ _ _ h => h) (Or.inl ⟨by rfl, ?_⟩) (by assumption) ?_
            rotate_left
            · (intro w hSw; (try dsimp only at hSw); go_simp; try with_reducible rfl)
            try simp only [Act.put, List.setIfInBounds_toArray, List.set_cons_zero, List.set_cons_succ]
            refine wpAnyH_ready (rs := [1]) (by kernel_rfl) (by simp) ?_
            refine AllReadyH.cons (o := { dst := some 25, op := Op.load 164 (Operand.tmp 3), type := 164, pos := "net.go:264", after := #[], guard := none }) rfl (fun K hK => ?_) ?_
            · go_simp
              refine hK.out _ _ ?_ (fun hHeld2 => ?_)
              · exact hHeld
              clear hHeld
              have hHeld := hHeld2
              clear hHeld2
              clear hK K
              try simp only [Act.put, List.setIfInBounds_toArray, List.set_cons_zero, List.set_cons_succ]
              refine wpAnyH_ready (rs := [10]) (by kernel_rfl) (by simp) ?_
              refine AllReadyH.cons (o := { dst := some 34, op := Op.call { callee := Callee.value (Operand.func 115), args := #[Operand.tmp 24, Operand.tmp 25, Operand.tmp 26, Operand.tmp 33], argTypes := #[39, 164, 3, 9] }, type := 164, pos := "net.go:264", after := #[{ on := 0, ground := Ground.data }, { on := 1, ground := Ground.data }, { on := 2, ground := Ground.data }, { on := 9, ground := Ground.data }], guard := none }) rfl (fun K hK => ?_) ?_
              · go_simp
                refine Calls.mono (HSk.out _ _ (hRr.up (Up.drew (Up.refl _)))) ?_
                rintro r w5 ⟨rfl, hu5⟩
                have hu15 : Up wr w5 := Up.trans (Up.drew (Up.refl _)) hu5
                have hg0 := keepC hu15 b0
                have hg1 := keepC hu15 b1
                have hg2 := keepC hu15 b2
                have hg3 := keepC hu15 b3
                have hzg : ∀ o, w5.frozen? ⟨SB, o, none⟩ = false := fun o => frozen_upN hu15 b0 (bz o)
                go_wp2_with fail
                refine hK.out _ _ ?_ (fun hHeld2 => ?_)
                · exact ⟨keepC hu5 hHeld.1, keepC hu5 hHeld.2⟩
                clear hHeld
                have hHeld := hHeld2
                clear hHeld2
                clear hK K
                try simp only [Act.put, List.setIfInBounds_toArray, List.set_cons_zero, List.set_cons_succ]
                refine wpAnyH_ready (rs := [11]) (by kernel_rfl) (by simp) ?_
                refine AllReadyH.cons (o := { dst := none, op := Op.store 164 (Operand.tmp 3) (Operand.tmp 34), type := 0, pos := "net.go:264", after := #[{ on := 10, ground := Ground.data }, { on := 10, ground := Ground.chain }, { on := 0, ground := Ground.phase }, { on := 1, ground := Ground.phase }, { on := 2, ground := Ground.phase }, { on := 3, ground := Ground.phase }, { on := 4, ground := Ground.phase }, { on := 5, ground := Ground.phase }, { on := 6, ground := Ground.phase }, { on := 7, ground := Ground.phase }, { on := 8, ground := Ground.phase }, { on := 9, ground := Ground.phase }, { on := 10, ground := Ground.phase }], guard := none }) rfl (fun K hK => ?_) ?_
                · go_simp
                  refine hK.out _ _ ?_ (fun hHeld2 => ?_)
                  · exact ⟨(far_cell4 (by omega)).trans hHeld.1, (far_cell4 (by omega)).trans hHeld.2⟩
                  clear hHeld
                  have hHeld := hHeld2
                  clear hHeld2
                  clear hK K
                  try simp only [Act.put, List.setIfInBounds_toArray, List.set_cons_zero, List.set_cons_succ]
                  refine wpAnyH_done (by kernel_rfl) ?_ _
                  refine NoPanic.normal ?_
                  obtain ⟨e0, e1, e2, e3⟩ := same_cell4 (x0 := .string C1) (x1 := .string V1) (x2 := .string Y1) (x3 := .int .i64 0) hg0 hg1 hg2 hg3
                  have hm : Below w.heap.size w ((((w5.setCell ⟨SB, 0, none⟩ (.string C1)).setCell ⟨SB, 1, none⟩ (.string V1)).setCell ⟨SB, 2, none⟩ (.string Y1)).setCell ⟨SB, 3, none⟩ (.int .i64 0)) := (((Below.setCell (Below.trans hu (hu15.mono (by have := hu.size; omega))) (by dsimp only; omega) _).setCell (by dsimp only; omega) _).setCell (by dsimp only; omega) _).setCell (by dsimp only; omega) _
                  have hz5 : ∀ o, ((((w5.setCell ⟨SB, 0, none⟩ (.string C1)).setCell ⟨SB, 1, none⟩ (.string V1)).setCell ⟨SB, 2, none⟩ (.string Y1)).setCell ⟨SB, 3, none⟩ (.int .i64 0)).frozen? ⟨SB, o, none⟩ = false := fun o => by rw [World.frozen?_setCell, World.frozen?_setCell, World.frozen?_setCell, World.frozen?_setCell]; exact hzg o
                  have ha : ((((w5.setCell ⟨SB, 0, none⟩ (.string C1)).setCell ⟨SB, 1, none⟩ (.string V1)).setCell ⟨SB, 2, none⟩ (.string Y1)).setCell ⟨SB, 3, none⟩ (.int .i64 0)).cell? ⟨w.heap.size, 0, none⟩ = some (.string ⟨#[]⟩) ∧ ((((w5.setCell ⟨SB, 0, none⟩ (.string C1)).setCell ⟨SB, 1, none⟩ (.string V1)).setCell ⟨SB, 2, none⟩ (.string Y1)).setCell ⟨SB, 3, none⟩ (.int .i64 0)).cell? ⟨w.heap.size, 1, none⟩ = some (.string ⟨#[]⟩) ∧ ((((w5.setCell ⟨SB, 0, none⟩ (.string C1)).setCell ⟨SB, 1, none⟩ (.string V1)).setCell ⟨SB, 2, none⟩ (.string Y1)).setCell ⟨SB, 3, none⟩ (.int .i64 0)).cell? ⟨w.heap.size, 2, none⟩ = some (.string ⟨#[]⟩) ∧ ((((w5.setCell ⟨SB, 0, none⟩ (.string C1)).setCell ⟨SB, 1, none⟩ (.string V1)).setCell ⟨SB, 2, none⟩ (.string Y1)).setCell ⟨SB, 3, none⟩ (.int .i64 0)).cell? ⟨w.heap.size, 3, none⟩ = some (.int .i64 0) := ⟨(far_cell4 (by omega)).trans (keepC hu15 hA.1), (far_cell4 (by omega)).trans (keepC hu15 hA.2.1), (far_cell4 (by omega)).trans (keepC hu15 hA.2.2.1), (far_cell4 (by omega)).trans (keepC hu15 hA.2.2.2)⟩
                  have haz : ∀ o, ((((w5.setCell ⟨SB, 0, none⟩ (.string C1)).setCell ⟨SB, 1, none⟩ (.string V1)).setCell ⟨SB, 2, none⟩ (.string Y1)).setCell ⟨SB, 3, none⟩ (.int .i64 0)).frozen? ⟨w.heap.size, o, none⟩ = false := fun o => by rw [World.frozen?_setCell, World.frozen?_setCell, World.frozen?_setCell, World.frozen?_setCell]; exact frozen_upN hu15 hA.1 (hAz o)
                  generalize ((((w5.setCell ⟨SB, 0, none⟩ (.string C1)).setCell ⟨SB, 1, none⟩ (.string V1)).setCell ⟨SB, 2, none⟩ (.string Y1)).setCell ⟨SB, 3, none⟩ (.int .i64 0)) = W5 at e0 e1 e2 e3 hm hz5 ha haz ⊢
                  clear hHeld hu5 hu15 hg0 hg1 hg2 hg3 hzg b0 b1 b2 b3 bz d8 dc
                  go_wp2_with fail
                  go_roundw
                  case rel => exact ⟨k + 1, (by have := HN.out; omega), by go_num, by rw [e0, HC1.out], by rw [e1, HV1.out], by rw [e2, HY1.out], e3, hz5, ha, haz, hm⟩
                  case measure => have := HN.out; simp [intOf]; omega
                exact AllReadyH.nil
              exact AllReadyH.nil
            exact AllReadyH.nil
          · obtain rfl : k = ds.length := by omega
            have d8 := hRr.c8
            obtain ⟨p, cd, hvd⟩ : ∃ p cd, vd = .slice p ds.length cd := by
              rcases hOr.2 with ⟨e, h0⟩ | ⟨g, cap, cur, e, _⟩
              · exact ⟨none, 0, by rw [e, h0]⟩
              · exact ⟨_, _, e⟩
            rw [hvd] at d8
            clear hRr hOr hvd
            obtain ⟨C0, hC0⟩ : ∃ c : ByteArray, c = ⟨(textsL 2 (P ds.length).cl).toArray⟩ := ⟨_, rfl⟩
            obtain ⟨V0, hV0⟩ : ∃ c : ByteArray, c = ⟨(textsL 2 (P ds.length).sv).toArray⟩ := ⟨_, rfl⟩
            obtain ⟨Y0, hY0⟩ : ∃ c : ByteArray, c = ⟨(P ds.length).y.toArray⟩ := ⟨_, rfl⟩
            have HC0 : Hid _ := hC0
            have HV0 : Hid _ := hV0
            have HY0 : Hid _ := hY0
            rw [← hC0] at b0
            rw [← hV0] at b1
            rw [← hY0] at b2
            obtain ⟨a0, a1, a2, a3⟩ := HA.out
            clear hC0 hV0 hY0 hA
            go_wp2_with fail
            refine bodyPost_ret (v := .agg #[.string C0, .string V0, .string Y0, .int .i64 0]) (by simp [results, Tryz.results116, go_sem, a0, a1, a2, a3]) rfl ⟨by rw [HC0.out, HV0.out, HY0.out], ?_⟩
            iterate 4 (refine Below.setCell ?_ (by dsimp only; omega) _)
            exact hu
      exact AllReadyH.nil
    exact AllReadyH.nil
  exact AllReadyH.nil

end Go.Proofs.YtcjhgbljhpflfabGreat

namespace Go.Proofs.YtcjhgbljhpflfabGreat
open Go.RowKit
set_option linter.unusedVariables false
set_option maxRecDepth 100000

theorem info_str : (Tryz.prog.info? 9).map (fun i => (i.zero, i.size, i.bytes)) = some (some (.string ⟨#[]⟩), 1, 16) := by kernel_rfl

/-- x.Draws = append(x.Draws, draws) -/
theorem append_draw {ops : Array Oper} {rest : List Oper} {o : Oper} {a : Act} {Q : Exit → Act → World → Prop} (w : World) (y : ByteArray) (hgd : o.guard = none) (s x : Operand)
    (ho : o.op = .call { callee := .builtin .append, args := #[s, x], argTypes := #[50, 50] })
    (v : Value) (ds : List ByteArray) (hs : a.eval s = v) (hown : OwnS w v ds) (m : Nat) (hx : a.eval x = .slice (some ⟨m, 0, none⟩) 1 1) (hm : m = w.heap.size) (hlen : ds.length ≤ 1000)
    (h : ∀ v' w', OwnS w' v' (ds ++ [y]) → w.grownBy w' v.ownBlock → (v'.ownBlock = v.ownBlock ∨ ∃ g, v'.ownBlock = some g ∧ w.heap.size ≤ g) → wpList Tryz.prog ops Q rest (a.put o.dst v') w') :
    wpList Tryz.prog ops Q (o :: rest) a (w.alloc (.cells #[.string y] 9)) := by
  subst hm
  obtain ⟨i0, hi, hz0, hz1, hz2⟩ := info_parts info_str
  refine wpList_append_own_at _ hgd s x 50 ho 0 9 i0 (.string ⟨#[]⟩) 1 16 Tryz.underlying50 hi hz0 hz1 hz2 rfl (by decide) v ds.length (ds.map Value.string) hs (World.ownsRow.alloc hown _)
    ⟨w.heap.size, 0, none⟩ 1 1 [.string y] hx rfl ?_ ?_ ?_ ?_ ?_ ?_
  · intro j u hj
    match j, hj with
    | 0, hj => simp at hj; subst hj; simp [Addr.add]
  · intro u hu; simp at hu; subst hu; rfl
  · unfold maxLen; omega
  · omega
  · omega
  · intro v' w' h1 h2 h3 h4
    have hg : w.grownBy w' v.ownBlock := ⟨h2.os, h2.tape, h2.output, Nat.le_trans (by simp) h2.size, fun k hk hne => (h2.block k (by simp; omega) hne).trans (heap_alloc_old w _ hk)⟩
    refine h v' w' ?_ hg ?_
    · simpa [OwnS] using h1
    · rcases h4 with h4 | h4
      · exact Or.inl h4
      · exact Or.inr ⟨_, h4, by simp⟩

theorem RC.own_ne {w : World} {R n t : Nat} {q b : Int} {net key turn input : ByteArray} {vd v : Value} {ds : List ByteArray} (h : RC w R n t q b net key turn input vd) (ho : OwnS w v ds) (h0 : ds = [] → v = .slice none 0 0) : some R ≠ v.ownBlock := by
  intro e
  rcases ho.2 with ⟨rfl, _⟩ | ⟨g, cap, cur, rfl, _⟩
  · cases e
  · simp only [Value.ownBlock, Option.some.injEq] at e
    subst e
    cases ds with
    | nil => have := h0 rfl; cases this
    | cons d ds =>
      have hc := OwnS.cell ho 0 (by simp)
      rw [h.c0] at hc
      cases hc

theorem RC.draws {w : World} {R n t : Nat} {q b : Int} {net key turn input : ByteArray} {vd : Value} (h : RC w R n t q b net key turn input vd) (v : Value) : RC (w.setCell ⟨R, 8, none⟩ v) R n t q b net key turn input v :=
  ⟨(else_cell (by decide)).trans h.c0, (else_cell (by decide)).trans h.c1, (else_cell (by decide)).trans h.c2, (else_cell (by decide)).trans h.c3, (else_cell (by decide)).trans h.c4, (else_cell (by decide)).trans h.c5, (else_cell (by decide)).trans h.c6, (else_cell (by decide)).trans h.c7, set_at h.c8, fun o => by rw [World.frozen?_setCell]; exact h.fz o⟩

theorem grown_mut {S : Nat → Prop} {w w' : World} {row : Option Nat} (h : w.grownBy w' row) (hs : ∀ k, some k = row → S k) : Mut S w w' :=
  ⟨h.os, h.tape, h.output, h.size, fun k hk hn => h.block k hk (fun e => hn (hs k e))⟩

theorem own_set {w : World} {R o : Nat} {v u : Value} {ds : List ByteArray} (h : OwnS w v ds) (hn : some R ≠ v.ownBlock) : OwnS (w.setCell ⟨R, o, none⟩ u) v ds := by
  refine ⟨h.1, ?_⟩
  rcases h.2 with h2 | ⟨g, cap, cur, rfl, h4, h5, h6⟩
  · exact Or.inl h2
  · exact Or.inr ⟨g, cap, cur, rfl, h4, by rw [Below.heap_setCell _ _ _ _ (fun c => hn (by simp [Value.ownBlock, c]))]; exact h5, h6⟩

/-- the blocks that a step of the reference may turn -/
abbrev RS (R : Nat) (vd : Value) (k : Nat) : Prop := k = R ∨ some k = vd.ownBlock

abbrev refArgs (R : Nat) (d : ByteArray) : Array Value := #[.pointer (some ⟨R, 0, none⟩), .string d]

set_option maxHeartbeats 4000000 in
theorem refStep_no (R : Nat) (D : Dat) (ds : List ByteArray) (d : ByteArray) (net key turn input : ByteArray) (vd : Value) (e : Int) (w : World) (O : D.Ok) (I : D.Is net key turn) (hin : okL input.data.toList D.n 2 D.t = true) (hdn : Done D (St.begin D.n input.data.toList) ds) (h : RC w R D.n D.t D.q D.b net key turn input vd) (ho : OwnS w vd ds) (he : e ≠ 0)
    (hst : ∀ W, RC W R D.n D.t D.q D.b net key turn input vd → Calls Tryz.prog 115 #[.pointer (some ⟨R, 0, none⟩), refV (playN D (St.begin D.n input.data.toList) ds ds.length) 0, .int .i64 (ds.length : Int), .string d] W fun r w' => r = .returned (refV (playN D (St.begin D.n input.data.toList) ds ds.length) e) ∧ Up W w') :
    Calls Tryz.prog 56 (refArgs R d) w fun r w' => r = .returned (.tuple #[.string ⟨#[]⟩, .int .i64 e]) ∧ Up w w' := by
  have HPl : Hid _ := fun W h1 h2 => played_calls R D ds net key turn input vd W O I hin hdn h1 h2
  have HSt : Hid _ := hst
  generalize playN D (St.begin D.n input.data.toList) ds ds.length = P at HPl HSt
  obtain ⟨p, cd, hvd⟩ : ∃ p cd, vd = .slice p ds.length cd := by
    rcases ho.2 with ⟨e, h0⟩ | ⟨g, cap, cur, e, _⟩
    · exact ⟨none, 0, by rw [e, h0]⟩
    · exact ⟨_, _, e⟩
  have c8 := h.c8
  rw [hvd] at c8
  have HR : Hid _ := h
  have HO : Hid _ := ho
  have hne : (e != 0) = true := bne_iff_ne.2 he
  unfold refV at HPl HSt
  generalize (⟨(textsL 2 P.cl).toArray⟩ : ByteArray) = C at HPl HSt
  generalize (⟨(textsL 2 P.sv).toArray⟩ : ByteArray) = V at HPl HSt
  generalize (⟨P.y.toArray⟩ : ByteArray) = Y at HPl HSt
  generalize ds.length = n at HSt c8
  clear hst hdn hin h ho hvd he
  go_enter Tryz.func56, Tryz.ntmps56
  go_wp2_with fail
  refine Calls.mono (HPl.out _ HR.out HO.out) ?_
  rintro r w1 ⟨rfl, hu1⟩
  clear c8
  go_wp2_with fail
  refine Calls.mono (HSt.out _ (HR.out.up hu1)) ?_
  rintro r w2 ⟨rfl, hu2⟩
  go_wp2_with fail
  go_quiet (fail)
  go_wp2_with fail
  go_ret2
  exact ⟨rfl, Up.drewN ((hu1.trans hu2).alloc _)⟩

set_option maxHeartbeats 4000000 in
theorem refStep_ok (R : Nat) (D : Dat) (ds : List ByteArray) (d : ByteArray) (net key turn input : ByteArray) (vd : Value) (w : World) (O : D.Ok) (I : D.Is net key turn) (hin : okL input.data.toList D.n 2 D.t = true) (hdn : Done D (St.begin D.n input.data.toList) ds) (h : RC w R D.n D.t D.q D.b net key turn input vd) (ho : OwnS w vd ds) (h0 : ds = [] → vd = .slice none 0 0)
    (hst : ∀ W, RC W R D.n D.t D.q D.b net key turn input vd → Calls Tryz.prog 115 #[.pointer (some ⟨R, 0, none⟩), refV (playN D (St.begin D.n input.data.toList) ds ds.length) 0, .int .i64 (ds.length : Int), .string d] W fun r w' => r = .returned (refV (nextS D ds.length (playN D (St.begin D.n input.data.toList) ds ds.length) d.data.toList) 0) ∧ Up W w') :
    Calls Tryz.prog 56 (refArgs R d) w fun r w' => r = .returned (.tuple #[.string ⟨(if 1 < ds.length % 4 then [] else (nextS D ds.length (playN D (St.begin D.n input.data.toList) ds ds.length) d.data.toList).y).toArray⟩, .int .i64 0]) ∧ ∃ vd', RC w' R D.n D.t D.q D.b net key turn input vd' ∧ OwnS w' vd' (ds ++ [d]) ∧ (vd'.ownBlock = vd.ownBlock ∨ ∃ g, vd'.ownBlock = some g ∧ w.heap.size ≤ g) ∧ Mut (RS R vd) w w' := by
  have HPl : Hid _ := fun W h1 h2 => played_calls R D ds net key turn input vd W O I hin hdn h1 h2
  have HSt : Hid _ := hst
  have hle := hdn.le O
  obtain ⟨NY, hNY⟩ : ∃ y, y = (nextS D ds.length (playN D (St.begin D.n input.data.toList) ds ds.length) d.data.toList).y := ⟨_, rfl⟩
  generalize nextS D ds.length (playN D (St.begin D.n input.data.toList) ds ds.length) d.data.toList = P' at HSt hNY ⊢
  generalize playN D (St.begin D.n input.data.toList) ds ds.length = P at HPl HSt
  have hRn := h.own_ne ho h0
  obtain ⟨p, cd, hvd⟩ : ∃ p cd, vd = .slice p ds.length cd := by
    rcases ho.2 with ⟨e, h0⟩ | ⟨g, cap, cur, e, _⟩
    · exact ⟨none, 0, by rw [e, h0]⟩
    · exact ⟨_, _, e⟩
  have HVD : Hid _ := hvd
  have c8 := h.c8
  rw [hvd] at c8
  have HR : Hid _ := h
  have HO : Hid _ := ho
  have HRN : Hid _ := hRn
  unfold refV at HPl HSt
  rw [← hNY] at HSt ⊢
  generalize (⟨(textsL 2 P.cl).toArray⟩ : ByteArray) = C at HPl HSt
  generalize (⟨(textsL 2 P.sv).toArray⟩ : ByteArray) = V at HPl HSt
  generalize (⟨P.y.toArray⟩ : ByteArray) = Y at HPl HSt
  generalize (⟨(textsL 2 P'.cl).toArray⟩ : ByteArray) = C' at HSt
  generalize (⟨(textsL 2 P'.sv).toArray⟩ : ByteArray) = V' at HSt
  obtain ⟨n, hn⟩ : ∃ n, n = ds.length := ⟨_, rfl⟩
  rw [← hn] at HSt c8 hle ⊢
  have HN : Hid _ := hn
  have hm0 : (n : Int).tmod 4 = ((n % 4 : Nat) : Int) := by rw [Int.tmod_eq_emod_of_nonneg (by omega)]; omega
  have hm1 : (n : Int) % 4 = ((n % 4 : Nat) : Int) := by omega
  have hm2 : n % 4 < 4 := Nat.mod_lt _ (by decide)
  obtain ⟨A, hA⟩ : ∃ A, A = (if 1 < n % 4 then [] else NY) := ⟨_, rfl⟩
  rw [← hA]
  have HA1 : Hid (1 < n % 4 → A = []) := fun c => by rw [hA, if_pos c]
  have HA2 : Hid (¬ 1 < n % 4 → A = NY) := fun c => by rw [hA, if_neg c]
  clear hst hdn hin h ho hvd h0 hn hNY hRn hA
  go_enter Tryz.func56, Tryz.ntmps56
  go_wp2_with fail
  refine Calls.mono (HPl.out _ HR.out HO.out) ?_
  rintro r w1 ⟨rfl, hu1⟩
  clear c8
  go_wp2_with fail
  refine Calls.mono (HSt.out _ (HR.out.up hu1)) ?_
  rintro r w2 ⟨rfl, hu2⟩
  obtain ⟨W, hW⟩ : ∃ W, W = w2.alloc (.cells #[.string C', .string V', .string ⟨NY.toArray⟩, .int .i64 0] 164) := ⟨_, rfl⟩
  have huW : Up w W := by rw [hW]; exact (hu1.trans hu2).alloc _
  have hRW := HR.out.up huW
  have hOW := row_up HO.out huW
  have k2 : W.cell? ⟨w2.heap.size, 2, none⟩ = some (.string ⟨NY.toArray⟩) := by rw [hW]; simp [go_sem]
  have k3 : W.cell? ⟨w2.heap.size, 3, none⟩ = some (.int .i64 0) := by rw [hW]; simp [go_sem]
  have HOW : Hid _ := hOW
  have HRW : Hid _ := hRW
  have HK2 : Hid _ := k2
  have c8 := hRW.c8
  have hlt : w.heap.size ≤ w2.heap.size := (hu1.trans hu2).size
  have hRl : R < w.heap.size := HR.out.lt
  have hOW2 : OwnS W (.slice p n cd) ds := by rw [HN.out]; rw [HVD.out] at hOW; exact hOW
  rw [HVD.out, ← HN.out] at c8
  clear hRW hOW
  subst hW
  go_wp2_with (at_builtin; refine append_draw _ _ rfl (.tmp 28) (.tmp 30) rfl _ ds rfl hOW2 _ rfl (by simp) (by rw [← HN.out]; omega) ?_)
  intro v4 w4 hown4 hg4 hb4
  rw [HN.out, ← HVD.out] at hg4 hb4
  have hR4 : RC w4 R D.n D.t D.q D.b net key turn input vd := HRW.out.mut (grown_mut (S := fun k => some k = vd.ownBlock) hg4 (fun k e => e)) HRN.out
  have hm4 : Mut (RS R vd) w w4 := huW.mut.trans (grown_mut hg4 (fun k e => Or.inr e))
  have k24 : some w2.heap.size ≠ vd.ownBlock := by
    intro e
    have hl := (World.ownsRow.lt HO.out _ e.symm).2
    omega
  have k2b := hg4.cell HK2.out k24
  have hne4 : some R ≠ v4.ownBlock := by
    rcases hb4 with e | ⟨g, e, hg⟩
    · rw [e]; exact HRN.out
    · rw [e]
      intro c
      have := Option.some.inj c
      have h9 := huW.size
      omega
  have hb5 : v4.ownBlock = vd.ownBlock ∨ ∃ g, v4.ownBlock = some g ∧ w.heap.size ≤ g := by
    rcases hb4 with e | ⟨g, e, hg⟩
    · exact Or.inl e
    · exact Or.inr ⟨g, e, by omega⟩
  have q8 := hR4.c8
  have qz : ∀ o, w4.frozen? ⟨R, o, none⟩ = false := hR4.fz
  have HR5 : Hid _ := hR4.draws v4
  have HO5 : Hid (OwnS (w4.setCell ⟨R, 8, none⟩ v4) v4 (ds ++ [d])) := own_set hown4 hne4
  have HM5 : Hid (Mut (RS R vd) w (w4.setCell ⟨R, 8, none⟩ v4)) := hm4.setCell (p := ⟨R, 8, none⟩) (Or.inl rfl) _
  have HB5 : Hid _ := hb5
  obtain ⟨g4, l4, cp4, hv4⟩ : ∃ g l c, v4 = .slice (some ⟨g, 0, none⟩) l c := by
    rcases hown4.2 with ⟨_, h0⟩ | ⟨g, cap, cur, e, _⟩
    · simp at h0
    · exact ⟨g, _, cap, e⟩
  have hRs : ¬ R = w2.heap.size := by omega
  have hRs2 : ¬ w2.heap.size = R := by omega
  clear hown4 hg4 hb4 hb5 hR4 hm4 k24 hne4 k2 k3 c8 hOW2
  subst hv4
  by_cases hq : 1 < n % 4
  · have hq2 : (1 : Int) < ((n % 4 : Nat) : Int) := by omega
    obtain rfl := HA1.out hq
    clear HA1 HA2
    generalize n % 4 = m4 at hm0 hm1 hm2 hq hq2
    go_wp2_with fail
    go_ret2
    exact ⟨rfl, _, HR5.out, HO5.out, HB5.out, HM5.out⟩
  · have hq2 : ¬ (1 : Int) < ((n % 4 : Nat) : Int) := by omega
    obtain rfl := HA2.out hq
    clear HA1 HA2
    generalize n % 4 = m4 at hm0 hm1 hm2 hq hq2
    go_wp2_with fail
    go_ret2
    exact ⟨rfl, _, HR5.out, HO5.out, HB5.out, HM5.out⟩

set_option maxHeartbeats 2000000 in
theorem refShares_calls (R : Nat) (D : Dat) (ds : List ByteArray) (net key turn input : ByteArray) (vd : Value) (w : World) (O : D.Ok) (I : D.Is net key turn) (hin : okL input.data.toList D.n 2 D.t = true) (hdn : Done D (St.begin D.n input.data.toList) ds) (h : RC w R D.n D.t D.q D.b net key turn input vd) (ho : OwnS w vd ds) :
    Calls Tryz.prog 57 #[.pointer (some ⟨R, 0, none⟩)] w fun r w' => r = .returned (.tuple #[.string ⟨(textsL 2 (playN D (St.begin D.n input.data.toList) ds ds.length).cl).toArray⟩, .string ⟨(textsL 2 (playN D (St.begin D.n input.data.toList) ds ds.length).sv).toArray⟩]) ∧ Up w w' := by
  have HPl : Hid _ := fun W h1 h2 => played_calls R D ds net key turn input vd W O I hin hdn h1 h2
  generalize playN D (St.begin D.n input.data.toList) ds ds.length = P at HPl
  have HR : Hid _ := h
  have HO : Hid _ := ho
  unfold refV at HPl
  generalize (⟨(textsL 2 P.cl).toArray⟩ : ByteArray) = C at HPl
  generalize (⟨(textsL 2 P.sv).toArray⟩ : ByteArray) = V at HPl
  generalize (⟨P.y.toArray⟩ : ByteArray) = Y at HPl
  clear hdn hin h ho
  go_enter Tryz.func57, Tryz.ntmps57
  go_wp2_with fail
  refine Calls.mono (HPl.out _ HR.out HO.out) ?_
  rintro r w1 ⟨rfl, hu1⟩
  go_wp2_with fail
  go_quiet (fail)
  go_wp2_with fail
  go_ret2
  exact ⟨rfl, Up.drewN (hu1.alloc _)⟩

set_option maxHeartbeats 2000000 in
theorem refOutput_not (R : Nat) (D : Dat) (ds : List ByteArray) (net key turn input : ByteArray) (vd : Value) (w : World) (O : D.Ok) (I : D.Is net key turn) (h : RC w R D.n D.t D.q D.b net key turn input vd) (ho : OwnS w vd ds) (hlt : ds.length < 4 * D.N) :
    Calls Tryz.prog 58 #[.pointer (some ⟨R, 0, none⟩)] w fun r w' => r = .returned (.tuple #[.string ⟨#[]⟩, .int .i64 5]) ∧ Up w w' := by
  have hN := O.N1
  have HB : Hid (∀ W, Calls Tryz.prog 97 #[.string net, .int .i64 1] W fun e w' => e = .returned (.int .i64 (D.N : Nat)) ∧ w' = W) := fun W => by
    have := Byte_calls net 1 W I.lnet (by omega)
    rw [I.enet] at this
    exact this
  obtain ⟨p, cd, hvd⟩ : ∃ p cd, vd = .slice p ds.length cd := by
    rcases ho.2 with ⟨e, h0⟩ | ⟨g, cap, cur, e, _⟩
    · exact ⟨none, 0, by rw [e, h0]⟩
    · exact ⟨_, _, e⟩
  have c8 := h.c8
  rw [hvd] at c8
  have c4 := h.c4
  generalize D.N = NN at HB hlt hN
  generalize ds.length = n at c8 hlt
  have hl2 : (n : Int) < 4 * (NN : Int) := by omega
  have e1 : IntKind.i64.wrap (4 * (NN : Int)) = 4 * (NN : Int) := IntWalk.i64_in _ (by omega)
  clear h ho hvd
  go_enter Tryz.func58, Tryz.ntmps58
  go_wp2_with fail
  go_region_held3 (fun w' => w'.cell? ⟨R, 8, none⟩ = some (.slice p n cd) ∧ w'.cell? ⟨R, 4, none⟩ = some (.string net))
    (first | go_keep | assumption)
    ((first | (go_at_call 97; refine Calls.mono (HB.out _) ?_; rintro e w' ⟨rfl, rfl⟩)))
  go_wp2_with fail
  go_ret2
  exact ⟨rfl, Up.drew (Up.refl _)⟩

end Go.Proofs.YtcjhgbljhpflfabGreat

namespace Go.Proofs.YtcjhgbljhpflfabGreat
open Go.RowKit
set_option linter.unusedVariables false
set_option maxRecDepth 100000

set_option maxHeartbeats 4000000 in
theorem refOutput_yes (R : Nat) (D : Dat) (ds : List ByteArray) (net key turn input : ByteArray) (vd : Value) (w : World) (O : D.Ok) (I : D.Is net key turn) (hin : okL input.data.toList D.n 2 D.t = true) (hdn : Done D (St.begin D.n input.data.toList) ds) (h : RC w R D.n D.t D.q D.b net key turn input vd) (ho : OwnS w vd ds) (hge : 4 * D.N ≤ ds.length) :
    Calls Tryz.prog 58 #[.pointer (some ⟨R, 0, none⟩)] w fun r w' => r = .returned (.tuple #[.string ⟨(textsL 2 (plusI D.n (playN D (St.begin D.n input.data.toList) ds ds.length).cl (playN D (St.begin D.n input.data.toList) ds ds.length).sv D.t)).toArray⟩, .int .i64 0]) ∧ Up w w' := by
  have hN := O.N1
  have hhf := O.nt.half
  have ht := O.nt.t3
  have ht2 := O.nt.ht
  have h256 : ((256 ^ 2 : Nat) : Int) = 65536 := by decide
  have HB : Hid (∀ W, Calls Tryz.prog 97 #[.string net, .int .i64 1] W fun e w' => e = .returned (.int .i64 (D.N : Nat)) ∧ w' = W) := fun W => by
    have := Byte_calls net 1 W I.lnet (by omega)
    rw [I.enet] at this
    exact this
  have HPl : Hid _ := fun W h1 h2 => played_calls R D ds net key turn input vd W O I hin hdn h1 h2
  have hs := hdn.ok ds.length (Nat.le_refl _)
  generalize playN D (St.begin D.n input.data.toList) ds ds.length = P at HPl hs ⊢
  have HVa : Hid (∀ (xs : List Int) W, xs.length = D.n → (∀ i, i < D.n → 0 ≤ xs.getD i 0 ∧ xs.getD i 0 < (D.t : Int)) → Calls Tryz.prog 43 #[.agg #[.int .i64 D.n, .int .i64 D.t, .int .i64 D.q, .int .i64 D.b], .string ⟨(textsL 2 xs).toArray⟩] W fun e w' => ∃ gx cx, e = .returned (.tuple #[.slice (some ⟨gx, 0, none⟩) D.n cx, .bool true]) ∧ IsI w' gx xs ∧ Up W w') := fun xs W hl hb => by
    refine (Values_ok D.n D.t D.q D.b ⟨(textsL 2 xs).toArray⟩ W (size_text hl (by omega)) (by omega) (okL_texts xs D.n 2 D.t hl hb (by omega))).mono ?_
    rintro e w' ⟨v, rfl, ho, hu⟩
    rw [list_back, nums_texts xs D.n 2 D.t hl hb (by omega)] at ho
    obtain ⟨g, c, rfl, _, i⟩ := ho.is (ne_nil_of_length hl (by omega))
    rw [hl]
    exact ⟨_, _, rfl, i, hu⟩
  have HV1 : Hid _ := fun W => HVa.out P.cl W hs.lc hs.bc
  have HV2 : Hid _ := fun W => HVa.out P.sv W hs.ls hs.bs
  have HPp : Hid (∀ (g1 c1 g2 c2 : Nat) W, IsI W g1 P.cl → IsI W g2 P.sv → Calls Tryz.prog 109 #[.slice (some ⟨g1, 0, none⟩) D.n c1, .slice (some ⟨g2, 0, none⟩) D.n c2, .int .i64 D.t] W fun e w' => ∃ gx cx, e = .returned (.slice (some ⟨gx, 0, none⟩) D.n cx) ∧ IsI w' gx (plusI D.n P.cl P.sv D.t) ∧ Up W w') := fun g1 c1 g2 c2 W h1 h2 => by
    refine (Plus_calls D.n P.cl P.sv g1 g2 c1 c2 D.t W (by omega) hs.lc hs.ls (by omega) (by omega) (small_bnd D.n D.t P.cl _ (by omega) (by omega) hs.lc hs.bc) (small_bnd D.n D.t P.sv _ (by omega) (by omega) hs.ls hs.bs) h1 h2).mono ?_
    rintro e w' ⟨v, rfl, ho, hu⟩
    obtain ⟨g, c, rfl, _, i⟩ := ho.is (ne_nil_of_length (plusI_length _ _ _ _) (by omega))
    rw [plusI_length]
    exact ⟨_, _, rfl, i, hu⟩
  have HTx : Hid (∀ gx cx W, IsI W gx (plusI D.n P.cl P.sv D.t) → Calls Tryz.prog 50 #[.slice (some ⟨gx, 0, none⟩) D.n cx, .int .i64 2] W fun e w' => e = .returned (.string ⟨(textsL 2 (plusI D.n P.cl P.sv D.t)).toArray⟩) ∧ Up W w') := fun gx cx W hi => by
    have h2 := plusI_lt D.n P.cl P.sv D.t (by omega)
    have := Texts_calls (plusI D.n P.cl P.sv D.t) gx cx 2 W (by omega) (by rw [plusI_length]; omega) (fun i hi => by rw [plusI_length] at hi; have := h2 i hi; omega) hi
    rw [plusI_length] at this
    exact this
  generalize (⟨(textsL 2 (plusI D.n P.cl P.sv D.t)).toArray⟩ : ByteArray) = ANS at HTx ⊢
  unfold refV at HPl
  generalize (⟨(textsL 2 P.cl).toArray⟩ : ByteArray) = C at HPl HV1
  generalize (⟨(textsL 2 P.sv).toArray⟩ : ByteArray) = V at HPl HV2
  generalize (⟨P.y.toArray⟩ : ByteArray) = Y at HPl
  generalize plusI D.n P.cl P.sv D.t = PP at HPp HTx
  generalize P.cl = cl at HV1 HPp
  generalize P.sv = sv at HV2 HPp
  obtain ⟨p, cd, hvd⟩ : ∃ p cd, vd = .slice p ds.length cd := by
    rcases ho.2 with ⟨e, h0⟩ | ⟨g, cap, cur, e, _⟩
    · exact ⟨none, 0, by rw [e, h0]⟩
    · exact ⟨_, _, e⟩
  have c8 := h.c8
  rw [hvd] at c8
  have c4 := h.c4
  have HR : Hid _ := h
  have HO : Hid _ := ho
  generalize D.N = NN at HB hge hN
  generalize ds.length = n at c8 hge
  have hl2 : ¬ (n : Int) < 4 * (NN : Int) := by omega
  have e1 : IntKind.i64.wrap (4 * (NN : Int)) = 4 * (NN : Int) := IntWalk.i64_in _ (by omega)
  clear hdn hin h ho hvd hs HVa
  go_enter Tryz.func58, Tryz.ntmps58
  go_wp2_with fail
  go_region_held3 (fun w' => w'.cell? ⟨R, 8, none⟩ = some (.slice p n cd) ∧ w'.cell? ⟨R, 4, none⟩ = some (.string net))
    (first | go_keep | assumption)
    ((first | (go_at_call 97; refine Calls.mono (HB.out _) ?_; rintro e w' ⟨rfl, rfl⟩)))
  clear c8 c4
  have hu0 : Up w w.drew := Up.drew (Up.refl _)
  go_wp2_with fail
  refine Calls.mono (HPl.out _ (HR.out.up hu0) (row_up HO.out hu0)) ?_
  rintro r w1 ⟨rfl, hu1⟩
  obtain ⟨W, hW⟩ : ∃ W, W = w1.alloc (.cells #[.string C, .string V, .string Y, .int .i64 0] 164) := ⟨_, rfl⟩
  have huW : Up w W := by rw [hW]; exact (hu0.trans hu1).alloc _
  have k0 : W.cell? ⟨w1.heap.size, 0, none⟩ = some (.string C) := by rw [hW]; simp [go_sem]
  have k1 : W.cell? ⟨w1.heap.size, 1, none⟩ = some (.string V) := by rw [hW]; simp [go_sem]
  have K1 : Hid _ := k1
  have hRW := HR.out.up huW
  have s0 := hRW.c0
  have s1 := hRW.c1
  have s2 := hRW.c2
  have s3 := hRW.c3
  clear hRW k1
  go_wp2_with fail
  rw [← hW]
  clear hW
  go_region_held3 (fun w' => w'.cell? ⟨R, 0, none⟩ = some (.int .i64 (D.n : Int)) ∧ w'.cell? ⟨R, 1, none⟩ = some (.int .i64 (D.t : Int)) ∧ w'.cell? ⟨R, 2, none⟩ = some (.int .i64 D.q) ∧ w'.cell? ⟨R, 3, none⟩ = some (.int .i64 D.b) ∧ w'.cell? ⟨w1.heap.size, 0, none⟩ = some (.string C))
    (first | go_keep | exact keepC5 hu2 (by assumption))
    ((first | (go_at_call 43; refine Calls.mono (HV1.out _) ?_; rintro e w2 ⟨g2, c2, rfl, i2, hu2⟩)))
  have hu02 := Up.trans (Up.drew (Up.refl _)) hu2
  clear s0 s1 s2 s3 k0 hu2
  have hR2 := HR.out.up (huW.trans hu02)
  have s0 := hR2.c0
  have s1 := hR2.c1
  have s2 := hR2.c2
  have s3 := hR2.c3
  have k1 := keepC hu02 K1.out
  clear hR2
  go_wp2_with fail
  go_region_held3 (fun w' => w'.cell? ⟨R, 0, none⟩ = some (.int .i64 (D.n : Int)) ∧ w'.cell? ⟨R, 1, none⟩ = some (.int .i64 (D.t : Int)) ∧ w'.cell? ⟨R, 2, none⟩ = some (.int .i64 D.q) ∧ w'.cell? ⟨R, 3, none⟩ = some (.int .i64 D.b) ∧ w'.cell? ⟨w1.heap.size, 1, none⟩ = some (.string V))
    (first | go_keep | exact keepC5 hu3 (by assumption))
    ((first | (go_at_call 43; refine Calls.mono (HV2.out _) ?_; rintro e w3 ⟨g3, c3, rfl, i3, hu3⟩)))
  have hu23 := Up.trans (Up.drew (Up.refl _)) hu3
  have hu03 := Up.trans hu02 hu23
  have j2 := i2.up hu23
  clear s0 s1 s2 s3 k1 hu3 i2
  have s1 := (HR.out.up (huW.trans hu03)).c1
  go_wp2_with fail
  refine Calls.mono (HPp.out _ _ _ _ _ j2 i3) ?_
  rintro r w4 ⟨g4, c4, rfl, i4, hu4⟩
  clear s1
  go_wp2_with fail
  refine Calls.mono (HTx.out _ _ _ i4) ?_
  rintro r w5 ⟨rfl, hu5⟩
  go_wp2_with fail
  go_ret2
  exact ⟨rfl, ((huW.trans hu03).trans hu4).trans hu5⟩

abbrev RNewNo (n t q b : Int) (net k m v : ByteArray) (e : Int) (w : World) : Prop :=
  Calls Tryz.prog 55 #[.agg #[.int .i64 n, .int .i64 t, .int .i64 q, .int .i64 b], .string net, .string k, .string m, .string v] w fun r w' => r = .returned (.tuple #[.pointer none, .int .i64 e]) ∧ Up w w'

set_option maxHeartbeats 400000 in
theorem refNew_bad (n t q b : Int) (net k m v : ByteArray) (w : World) (hg : goodB n t q b = false) : RNewNo n t q b net k m v 1 w := by
  go_enter Tryz.func55, Tryz.ntmps55
  go_wp2_with (go_at_call 40; refine (refGood_calls _ _ _ _ _).mono ?_; rintro e w' ⟨rfl, hu⟩)
  go_ret2
  exact ⟨rfl, ((Up.refl _).alloc _).trans hu⟩

theorem Secret_any (n : Nat) (t q b : Int) (s : ByteArray) (w : World) (hs : s.size ≤ maxLen) (hn : n ≤ 16) (hn1 : 1 ≤ n) :
    Calls Tryz.prog 114 #[.agg #[.int .i64 n, .int .i64 t, .int .i64 q, .int .i64 b], .string s] w fun e w' => ∃ a x y, e = .returned (.tuple #[.slice a x y, .bool (secB s.data.toList n)]) ∧ Up w w' := by
  cases h : secB s.data.toList n with
  | true =>
    refine (Secret_ok n t q b s w hs hn hn1 h).mono ?_
    rintro e w' ⟨v, rfl, ho, hu⟩
    obtain ⟨g, c, rfl, _, _⟩ := ho.is (ne_nil_of_length (secI_length _ _) (by omega))
    exact ⟨_, _, _, rfl, hu⟩
  | false =>
    refine (Secret_no n t q b s w hs hn h).mono ?_
    rintro e w' ⟨rfl, hu⟩
    exact ⟨_, _, _, rfl, hu⟩

set_option maxHeartbeats 4000000 in
theorem refNew_form (n t L : Nat) (q b : Int) (net k m v : ByteArray) (w : World) (hl : net.size ≤ maxLen) (hk : k.size ≤ maxLen) (hm : m.size ≤ maxLen) (g : NT n t) (hq : 2 ≤ q) (hq2 : q ≤ 1073741823) (hb : 1 ≤ b) (hb2 : b ≤ 8) (hL : DigOf q b L) (hg : goodB n t q b = true) (o0 o1 o2 : Bool) (h0 : netB net.data.toList n t = o0) (h1 : secB k.data.toList n = o1) (h2 : tnB m.data.toList (2 * n * L) q = o2) (h : o0 = false ∨ (o0 = true ∧ o1 = false) ∨ (o0 = true ∧ o1 = true ∧ o2 = false)) : RNewNo n t q b net k m v 2 w := by
  have hhf := g.half
  have HN : Hid (∀ W, Calls Tryz.prog 113 #[.agg #[.int .i64 n, .int .i64 t, .int .i64 q, .int .i64 b], .string net] W fun e w' => e = .returned (.bool o0) ∧ Up W w') := fun W => by
    rw [← h0]
    exact Net_calls n t q b net W hl g.hn
  have HK : Hid (∀ W, Calls Tryz.prog 114 #[.agg #[.int .i64 n, .int .i64 t, .int .i64 q, .int .i64 b], .string k] W fun e w' => ∃ a x y, e = .returned (.tuple #[.slice a x y, .bool o1]) ∧ Up W w') := fun W => by
    rw [← h1]
    exact Secret_any n t q b k W hk (by omega) (by omega)
  have HT : Hid (∀ W, Calls Tryz.prog 44 #[.agg #[.int .i64 n, .int .i64 t, .int .i64 q, .int .i64 b], .string m] W fun e w' => e = .returned (.bool o2) ∧ Up W w') := fun W => by
    rw [← h2]
    exact Turner_calls n L t q b m W hm (by omega) hq hq2 hb hb2 hL
  clear h0 h1 h2 hL
  rcases h with rfl | ⟨rfl, rfl⟩ | ⟨rfl, rfl, rfl⟩
  all_goals
    go_enter Tryz.func55, Tryz.ntmps55
    go_wp2_with fail
    refine (refGood_calls _ _ _ _ _).mono ?_
    rintro e w1 ⟨rfl, hu1⟩
    obtain ⟨hc, hf⟩ := bcell hu1
    go_wp2_with fail
    refine Calls.mono (HN.out _) ?_
    rintro e w2 ⟨rfl, hu2⟩
    clear hc hf
    have hu12 := hu1.trans hu2
    obtain ⟨hc, hf⟩ := bcell hu12
    go_wp2_with fail
    refine Calls.mono (HK.out _) ?_
    rintro e w3 ⟨a3, x3, y3, rfl, hu3⟩
    clear hc hf
    have hu13 := hu12.trans hu3
    obtain ⟨hc, hf⟩ := bcell hu13
    go_wp2_with fail
    refine Calls.mono (HT.out _) ?_
    rintro e w4 ⟨rfl, hu4⟩
    clear hc hf
    go_wp2_with fail
    go_ret2
    exact ⟨rfl, (((Up.refl _).alloc _).trans hu13).trans hu4⟩

set_option maxHeartbeats 4000000 in
theorem refNew_late (n t L : Nat) (q b : Int) (net k m v : ByteArray) (w : World) (hl : net.size ≤ maxLen) (hk : k.size ≤ maxLen) (hm : m.size ≤ maxLen) (hv : v.size ≤ maxLen) (g : NT n t) (hq : 2 ≤ q) (hq2 : q ≤ 1073741823) (hb : 1 ≤ b) (hb2 : b ≤ 8) (hL : DigOf q b L) (hg : goodB n t q b = true) (h0 : netB net.data.toList n t = true) (h1 : secB k.data.toList n = true) (h2 : tnB m.data.toList (2 * n * L) q = true) (o3 : Bool) (h3 : okL v.data.toList n 2 t = o3) :
    Calls Tryz.prog 55 #[.agg #[.int .i64 n, .int .i64 t, .int .i64 q, .int .i64 b], .string net, .string k, .string m, .string v] w fun r w' => Up w w' ∧ ((o3 = false ∧ r = .returned (.tuple #[.pointer none, .int .i64 3])) ∨ (o3 = true ∧ ∃ R, r = .returned (.tuple #[.pointer (some ⟨R, 0, none⟩), .int .i64 0]) ∧ w.heap.size ≤ R ∧ RC w' R n t q b net k m v (.slice none 0 0))) := by
  have hhf := g.half
  have HN : Hid (∀ W, Calls Tryz.prog 113 #[.agg #[.int .i64 n, .int .i64 t, .int .i64 q, .int .i64 b], .string net] W fun e w' => e = .returned (.bool true) ∧ Up W w') := fun W => by
    rw [← h0]
    exact Net_calls n t q b net W hl g.hn
  have HK : Hid (∀ W, Calls Tryz.prog 114 #[.agg #[.int .i64 n, .int .i64 t, .int .i64 q, .int .i64 b], .string k] W fun e w' => ∃ a x y, e = .returned (.tuple #[.slice a x y, .bool true]) ∧ Up W w') := fun W => by
    rw [← h1]
    exact Secret_any n t q b k W hk (by omega) (by omega)
  have HT : Hid (∀ W, Calls Tryz.prog 44 #[.agg #[.int .i64 n, .int .i64 t, .int .i64 q, .int .i64 b], .string m] W fun e w' => e = .returned (.bool true) ∧ Up W w') := fun W => by
    rw [← h2]
    exact Turner_calls n L t q b m W hm (by omega) hq hq2 hb hb2 hL
  have HV : Hid (∀ W, Calls Tryz.prog 43 #[.agg #[.int .i64 n, .int .i64 t, .int .i64 q, .int .i64 b], .string v] W fun e w' => ∃ a x y, e = .returned (.tuple #[.slice a x y, .bool o3]) ∧ Up W w') := fun W => by
    rw [← h3]
    exact Values_any n t q b v W hv (by omega) (by omega)
  clear h0 h1 h2 h3 hL
  go_enter Tryz.func55, Tryz.ntmps55
  go_wp2_with fail
  refine (refGood_calls _ _ _ _ _).mono ?_
  rintro e w1 ⟨rfl, hu1⟩
  obtain ⟨hc, hf⟩ := bcell hu1
  go_wp2_with fail
  refine Calls.mono (HN.out _) ?_
  rintro e w2 ⟨rfl, hu2⟩
  clear hc hf
  have hu12 := hu1.trans hu2
  obtain ⟨hc, hf⟩ := bcell hu12
  go_wp2_with fail
  refine Calls.mono (HK.out _) ?_
  rintro e w3 ⟨a3, x3, y3, rfl, hu3⟩
  clear hc hf
  have hu13 := hu12.trans hu3
  obtain ⟨hc, hf⟩ := bcell hu13
  go_wp2_with fail
  refine Calls.mono (HT.out _) ?_
  rintro e w4 ⟨rfl, hu4⟩
  clear hc hf
  have hu14 := hu13.trans hu4
  obtain ⟨hc, hf⟩ := bcell hu14
  go_wp2_with fail
  refine Calls.mono (HV.out _) ?_
  rintro e w5 ⟨a5, x5, y5, rfl, hu5⟩
  clear hc hf
  have hu15 := hu14.trans hu5
  have hall : Up w w5 := ((Up.refl _).alloc _).trans hu15
  cases o3 with
  | false =>
    go_wp2_with fail
    go_ret2
    first | exact ⟨hall, rfl⟩ | exact ⟨hall, Or.inl ⟨rfl, rfl⟩⟩
  | true =>
    obtain ⟨hc, hf⟩ := bcell hu15
    go_wp2_with fail
    go_ret2
    refine ⟨hall.alloc _, w5.heap.size, rfl, hall.size, ⟨by simp [go_sem], by simp [go_sem], by simp [go_sem], by simp [go_sem], by simp [go_sem], by simp [go_sem], by simp [go_sem], by simp [go_sem], by simp [go_sem], fun o => by simp [go_sem]⟩⟩

end Go.Proofs.YtcjhgbljhpflfabGreat
