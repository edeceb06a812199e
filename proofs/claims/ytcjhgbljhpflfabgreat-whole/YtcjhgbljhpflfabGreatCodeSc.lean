/-
  Walks: the steps of the program's session that ask a layer.
  Walks: a session of the program: its step, its shares, its output.
-/
import Derived.Test.YtcjhgbljhpflfabGreatCodeSa
namespace Go.Proofs.YtcjhgbljhpflfabGreat
open Go.RowKit
set_option linter.unusedVariables false
set_option maxRecDepth 100000

theorem keepC10 {p0 p1 p2 p3 p4 p5 p6 p7 p8 p9 : Addr} {u0 u1 u2 u3 u4 u5 u6 u7 u8 u9 : Value} {W W' : World} (hu : Up W W') (hS : W.cell? p0 = some u0 ∧ W.cell? p1 = some u1 ∧ W.cell? p2 = some u2 ∧ W.cell? p3 = some u3 ∧ W.cell? p4 = some u4 ∧ W.cell? p5 = some u5 ∧ W.cell? p6 = some u6 ∧ W.cell? p7 = some u7 ∧ W.cell? p8 = some u8 ∧ W.cell? p9 = some u9) :
    W'.cell? p0 = some u0 ∧ W'.cell? p1 = some u1 ∧ W'.cell? p2 = some u2 ∧ W'.cell? p3 = some u3 ∧ W'.cell? p4 = some u4 ∧ W'.cell? p5 = some u5 ∧ W'.cell? p6 = some u6 ∧ W'.cell? p7 = some u7 ∧ W'.cell? p8 = some u8 ∧ W'.cell? p9 = some u9 :=
  ⟨keepC hu hS.1, keepC hu hS.2.1, keepC8s hu hS.2.2⟩

theorem keepC9 {p0 p1 p2 p3 p4 p5 p6 p7 p8 : Addr} {u0 u1 u2 u3 u4 u5 u6 u7 u8 : Value} {W W' : World} (hu : Up W W') (hS : W.cell? p0 = some u0 ∧ W.cell? p1 = some u1 ∧ W.cell? p2 = some u2 ∧ W.cell? p3 = some u3 ∧ W.cell? p4 = some u4 ∧ W.cell? p5 = some u5 ∧ W.cell? p6 = some u6 ∧ W.cell? p7 = some u7 ∧ W.cell? p8 = some u8) :
    W'.cell? p0 = some u0 ∧ W'.cell? p1 = some u1 ∧ W'.cell? p2 = some u2 ∧ W'.cell? p3 = some u3 ∧ W'.cell? p4 = some u4 ∧ W'.cell? p5 = some u5 ∧ W'.cell? p6 = some u6 ∧ W'.cell? p7 = some u7 ∧ W'.cell? p8 = some u8 :=
  ⟨keepC hu hS.1, keepC8s hu hS.2⟩

theorem keepC13 {p0 p1 p2 p3 p4 p5 p6 p7 p8 p9 p10 p11 p12 : Addr} {u0 u1 u2 u3 u4 u5 u6 u7 u8 u9 u10 u11 u12 : Value} {W W' : World} (hu : Up W W') (hS : W.cell? p0 = some u0 ∧ W.cell? p1 = some u1 ∧ W.cell? p2 = some u2 ∧ W.cell? p3 = some u3 ∧ W.cell? p4 = some u4 ∧ W.cell? p5 = some u5 ∧ W.cell? p6 = some u6 ∧ W.cell? p7 = some u7 ∧ W.cell? p8 = some u8 ∧ W.cell? p9 = some u9 ∧ W.cell? p10 = some u10 ∧ W.cell? p11 = some u11 ∧ W.cell? p12 = some u12) :
    W'.cell? p0 = some u0 ∧ W'.cell? p1 = some u1 ∧ W'.cell? p2 = some u2 ∧ W'.cell? p3 = some u3 ∧ W'.cell? p4 = some u4 ∧ W'.cell? p5 = some u5 ∧ W'.cell? p6 = some u6 ∧ W'.cell? p7 = some u7 ∧ W'.cell? p8 = some u8 ∧ W'.cell? p9 = some u9 ∧ W'.cell? p10 = some u10 ∧ W'.cell? p11 = some u11 ∧ W'.cell? p12 = some u12 :=
  ⟨keepC hu hS.1, keepC hu hS.2.1, keepC hu hS.2.2.1, keepC10 hu hS.2.2.2⟩

set_option maxHeartbeats 4000000 in
theorem bend_sess (X n t d : Nat) (q b : Int) (l : List UInt8) (cl sv : List Int) (H cap gb cb gc cc gv cv : Nat) (vk vt vr : Value) (nx : Int) (v0 v1 v2 : Value) (s : ByteArray) (w : World) (hs : s.size ≤ maxLen) (g : NT n t) (htq : (t : Int) < q) (hsh : byteL l 2 ≤ 7) (lc : cl.length = n) (ls : sv.length = n) (bc : ∀ i, i < n → 0 ≤ cl.getD i 0 ∧ cl.getD i 0 < (t : Int)) (bs : ∀ i, i < n → 0 ≤ sv.getD i 0 ∧ sv.getD i 0 < (t : Int))
    (hS : SC w X n t q b vk vt vr nx (.slice (some ⟨gc, 0, none⟩) n cc) (.slice (some ⟨gv, 0, none⟩) n cv) v0 v1 v2) (ic : IsI w gc cl) (iv : IsI w gv sv) :
    Calls Tryz.prog 81 #[.pointer (some ⟨X, 0, none⟩), .agg #[.bool (byteL l 1 == 1), .int .i64 (byteL l 2 : Nat), .slice (some ⟨H, 0, none⟩) d cap, .slice (some ⟨gb, 0, none⟩) n cb], .string s] w fun e w' => ∃ g1 c1 g2 c2, n ≤ c1 ∧ n ≤ c2 ∧ e = .returned (.tuple #[]) ∧ SC w' X n t q b vk vt vr 0 (.slice (some ⟨g1, 0, none⟩) n c1) (.slice (some ⟨g2, 0, none⟩) n c2) v0 v1 v2 ∧ IsI w' g1 (bendI n t l cl sv (maskI n t s.data.toList)) ∧ IsI w' g2 (maskI n t s.data.toList) ∧ Mut (fun k => k = X) w w' := by
  have hhf := g.half
  have ht := g.t3
  have ht2 := g.ht
  have hn4 : 4 ≤ n := by omega
  have hn16 : n ≤ 16 := by omega
  have HMk : Hid _ := fun W => Mask_calls n t q b s W hs hn4 hn16 (by omega) ht2
  have HBe : Hid _ := fun (g2 c2 : Nat) W => layBend_calls n t d q b l cl sv (maskI n t s.data.toList) H cap gb cb gc cc gv cv g2 c2 W g hsh lc ls (maskI_length _ _ _) bc bs (maskI_lt _ _ _ (by omega))
  have HML : Hid _ := maskI_length n t s.data.toList
  have HMB : Hid _ := maskI_lt n t s.data.toList (by omega)
  have HFL : Hid ((bendI n t l cl sv (maskI n t s.data.toList)).length = n) := lessI_length _ _ _ _
  have HFB : Hid (∀ i, i < n → 0 ≤ (bendI n t l cl sv (maskI n t s.data.toList)).getD i 0 ∧ (bendI n t l cl sv (maskI n t s.data.toList)).getD i 0 < (t : Int)) := lessI_lt _ _ _ _ (by omega)
  generalize bendI n t l cl sv (maskI n t s.data.toList) = FF at HBe HFL HFB
  generalize maskI n t s.data.toList = MM at HMk HBe HML HMB
  generalize (byteL l 1 == 1) = bb at HBe
  generalize byteL l 2 = sh at HBe hsh
  have hXw := hS.lt
  obtain ⟨W, hW⟩ : ∃ W, W = w.alloc (.cells #[.bool bb, .int .i64 (sh : Nat), .slice (some ⟨H, 0, none⟩) d cap, .slice (some ⟨gb, 0, none⟩) n cb] 80) := ⟨_, rfl⟩
  have huW : Up w W := by rw [hW]; exact (Up.refl _).alloc _
  have KL : Hid (W.cell? ⟨w.heap.size, 0, none⟩ = some (.bool bb) ∧ W.cell? ⟨w.heap.size, 1, none⟩ = some (.int .i64 (sh : Nat)) ∧ W.cell? ⟨w.heap.size, 2, none⟩ = some (.slice (some ⟨H, 0, none⟩) d cap) ∧ W.cell? ⟨w.heap.size, 3, none⟩ = some (.slice (some ⟨gb, 0, none⟩) n cb)) := by
    show _ ∧ _ ∧ _ ∧ _
    rw [hW]
    exact ⟨by simp [go_sem], by simp [go_sem], by simp [go_sem], by simp [go_sem]⟩
  have hSW := hS.up huW
  have HSW : Hid _ := hSW
  have jc := ic.up huW
  have jv := iv.up huW
  have hS0 := hSW.c0
  have hS1 := hSW.c1
  have hS2 := hSW.c2
  have hS3 := hSW.c3
  clear hS hSW ic iv
  subst hW
  go_enter Tryz.func81, Tryz.ntmps81
  go_wp2_with fail
  refine Calls.mono (HMk.out _) ?_
  rintro r w1 ⟨g2, c2, hc2, rfl, i2, hu1⟩
  have HC2 : Hid _ := hc2
  have hS1' := HSW.out.up hu1
  have HS1 : Hid _ := hS1'
  clear hS0 hS1 hS2 hS3 hc2
  have hS0 := hS1'.c0
  have hS1 := hS1'.c1
  have hS2 := hS1'.c2
  have hS3 := hS1'.c3
  have hS8 := hS1'.c8
  have hS9 := hS1'.c9
  obtain ⟨hL0, hL1, hL2, hL3⟩ := keepC4 hu1 KL.out
  have kc := jc.up hu1
  have kv := jv.up hu1
  clear hS1' jc jv
  go_wp2_with fail
  refine wp_region_noPanic ?_
  refine wp_region_held_drew (S := (fun w' => w'.cell? ⟨X, 0, none⟩ = some (.int .i64 (n : Int)) ∧ w'.cell? ⟨X, 1, none⟩ = some (.int .i64 (t : Int)) ∧ w'.cell? ⟨X, 2, none⟩ = some (.int .i64 q) ∧ w'.cell? ⟨X, 3, none⟩ = some (.int .i64 b) ∧ w'.cell? ⟨w.heap.size, 0, none⟩ = some (.bool bb) ∧ w'.cell? ⟨w.heap.size, 1, none⟩ = some (.int .i64 (sh : Nat)) ∧ w'.cell? ⟨w.heap.size, 2, none⟩ = some (.slice (some ⟨H, 0, none⟩) d cap) ∧ w'.cell? ⟨w.heap.size, 3, none⟩ = some (.slice (some ⟨gb, 0, none⟩) n cb) ∧ w'.cell? ⟨X, 9, none⟩ = some (.slice (some ⟨gv, 0, none⟩) n cv))) (by kernel_rfl) ?_ (fun hHeld => ?_)
  · exact ⟨hS0, hS1, hS2, hS3, hL0, hL1, hL2, hL3, hS9⟩
  refine wpAnyH_take (i := 0) (oi := { dst := some 13, op := Op.move (Operand.tmp 0), type := 38, pos := "session.go:126", after := #[], guard := none }) (v := ?_) rfl (by kernel_rfl) (by kernel_rfl) (by kernel_rfl) (fun _ _ _ h => h) (Or.inl ⟨by rfl, ?_⟩) (by assumption) ?_
  rotate_left
  · (intro w hSw; (try dsimp only at hSw); go_simp; try with_reducible rfl)
  try simp only [Act.put, List.setIfInBounds_toArray, List.set_cons_zero, List.set_cons_succ]
  refine wpAnyH_take (i := 1) (oi := { dst := some 14, op := Op.move (Operand.tmp 0), type := 38, pos := "session.go:126", after := #[], guard := none }) (v := ?_) rfl (by kernel_rfl) (by kernel_rfl) (by kernel_rfl) (fun _ _ _ h => h) (Or.inl ⟨by rfl, ?_⟩) (by assumption) ?_
  rotate_left
  · (intro w hSw; (try dsimp only at hSw); go_simp; try with_reducible rfl)
  try simp only [Act.put, List.setIfInBounds_toArray, List.set_cons_zero, List.set_cons_succ]
  refine wpAnyH_take (i := 2) (oi := { dst := some 15, op := Op.nilCheck (Operand.tmp 14), type := 0, pos := "session.go:126", after := #[{ on := 1, ground := Ground.data }], guard := none }) (v := ?_) rfl (by kernel_rfl) (by kernel_rfl) (by kernel_rfl) (fun _ _ _ h => h) (Or.inl ⟨by rfl, ?_⟩) (by assumption) ?_
  rotate_left
  · (intro w hSw; (try dsimp only at hSw); go_simp; try with_reducible rfl)
  try simp only [Act.put, List.setIfInBounds_toArray, List.set_cons_zero, List.set_cons_succ]
  refine wpAnyH_take (i := 3) (oi := { dst := some 16, op := Op.fieldAddr 126 (Operand.tmp 15) 0, type := 0, pos := "session.go:126", after := #[{ on := 2, ground := Ground.data }], guard := none }) (v := ?_) rfl (by kernel_rfl) (by kernel_rfl) (by kernel_rfl) (fun _ _ _ h => h) (Or.inl ⟨by rfl, ?_⟩) (by assumption) ?_
  rotate_left
  · (intro w hSw; (try dsimp only at hSw); go_simp; try with_reducible rfl)
  try simp only [Act.put, List.setIfInBounds_toArray, List.set_cons_zero, List.set_cons_succ]
  refine wpAnyH_take (i := 4) (oi := { dst := some 17, op := Op.load 28 (Operand.tmp 16), type := 28, pos := "session.go:126", after := #[{ on := 3, ground := Ground.data }], guard := none }) (v := ?_) rfl (by kernel_rfl) (by kernel_rfl) (by kernel_rfl) (fun _ _ _ h => h) (Or.inl ⟨by rfl, ?_⟩) (by assumption) ?_
  rotate_left
  · (intro w hSw; (try dsimp only at hSw); go_simp; try with_reducible rfl)
  try simp only [Act.put, List.setIfInBounds_toArray, List.set_cons_zero, List.set_cons_succ]
  refine wpAnyH_take (i := 5) (oi := { dst := some 18, op := Op.load 80 (Operand.tmp 4), type := 80, pos := "session.go:126", after := #[], guard := none }) (v := ?_) rfl (by kernel_rfl) (by kernel_rfl) (by kernel_rfl) (fun _ _ _ h => h) (Or.inl ⟨by rfl, ?_⟩) (by assumption) ?_
  rotate_left
  · (intro w hSw; (try dsimp only at hSw); go_simp; try with_reducible rfl)
  try simp only [Act.put, List.setIfInBounds_toArray, List.set_cons_zero, List.set_cons_succ]
  refine wpAnyH_take (i := 6) (oi := { dst := some 19, op := Op.move (Operand.tmp 0), type := 38, pos := "session.go:126", after := #[], guard := none }) (v := ?_) rfl (by kernel_rfl) (by kernel_rfl) (by kernel_rfl) (fun _ _ _ h => h) (Or.inl ⟨by rfl, ?_⟩) (by assumption) ?_
  rotate_left
  · (intro w hSw; (try dsimp only at hSw); go_simp; try with_reducible rfl)
  try simp only [Act.put, List.setIfInBounds_toArray, List.set_cons_zero, List.set_cons_succ]
  refine wpAnyH_take (i := 7) (oi := { dst := some 20, op := Op.nilCheck (Operand.tmp 19), type := 0, pos := "session.go:126", after := #[{ on := 6, ground := Ground.data }], guard := none }) (v := ?_) rfl (by kernel_rfl) (by kernel_rfl) (by kernel_rfl) (fun _ _ _ h => h) (Or.inl ⟨by rfl, ?_⟩) (by assumption) ?_
  rotate_left
  · (intro w hSw; (try dsimp only at hSw); go_simp; try with_reducible rfl)
  try simp only [Act.put, List.setIfInBounds_toArray, List.set_cons_zero, List.set_cons_succ]
  refine wpAnyH_take (i := 8) (oi := { dst := some 21, op := Op.fieldAddr 126 (Operand.tmp 20) 5, type := 0, pos := "session.go:126", after := #[{ on := 7, ground := Ground.data }], guard := none }) (v := ?_) rfl (by kernel_rfl) (by kernel_rfl) (by kernel_rfl) (fun _ _ _ h => h) (Or.inl ⟨by rfl, ?_⟩) (by assumption) ?_
  rotate_left
  · (intro w hSw; (try dsimp only at hSw); go_simp; try with_reducible rfl)
  try simp only [Act.put, List.setIfInBounds_toArray, List.set_cons_zero, List.set_cons_succ]
  refine wpAnyH_take (i := 10) (oi := { dst := some 23, op := Op.move (Operand.tmp 0), type := 38, pos := "session.go:126", after := #[], guard := none }) (v := ?_) rfl (by kernel_rfl) (by kernel_rfl) (by kernel_rfl) (fun _ _ _ h => h) (Or.inl ⟨by rfl, ?_⟩) (by assumption) ?_
  rotate_left
  · (intro w hSw; (try dsimp only at hSw); go_simp; try with_reducible rfl)
  try simp only [Act.put, List.setIfInBounds_toArray, List.set_cons_zero, List.set_cons_succ]
  refine wpAnyH_take (i := 11) (oi := { dst := some 24, op := Op.nilCheck (Operand.tmp 23), type := 0, pos := "session.go:126", after := #[{ on := 10, ground := Ground.data }], guard := none }) (v := ?_) rfl (by kernel_rfl) (by kernel_rfl) (by kernel_rfl) (fun _ _ _ h => h) (Or.inl ⟨by rfl, ?_⟩) (by assumption) ?_
  rotate_left
  · (intro w hSw; (try dsimp only at hSw); go_simp; try with_reducible rfl)
  try simp only [Act.put, List.setIfInBounds_toArray, List.set_cons_zero, List.set_cons_succ]
  refine wpAnyH_take (i := 12) (oi := { dst := some 25, op := Op.fieldAddr 126 (Operand.tmp 24) 6, type := 0, pos := "session.go:126", after := #[{ on := 11, ground := Ground.data }], guard := none }) (v := ?_) rfl (by kernel_rfl) (by kernel_rfl) (by kernel_rfl) (fun _ _ _ h => h) (Or.inl ⟨by rfl, ?_⟩) (by assumption) ?_
  rotate_left
  · (intro w hSw; (try dsimp only at hSw); go_simp; try with_reducible rfl)
  try simp only [Act.put, List.setIfInBounds_toArray, List.set_cons_zero, List.set_cons_succ]
  refine wpAnyH_take (i := 13) (oi := { dst := some 26, op := Op.load 54 (Operand.tmp 25), type := 54, pos := "session.go:126", after := #[{ on := 12, ground := Ground.data }], guard := none }) (v := ?_) rfl (by kernel_rfl) (by kernel_rfl) (by kernel_rfl) (fun _ _ _ h => h) (Or.inl ⟨by rfl, ?_⟩) (by assumption) ?_
  rotate_left
  · (intro w hSw; (try dsimp only at hSw); go_simp; try with_reducible rfl)
  try simp only [Act.put, List.setIfInBounds_toArray, List.set_cons_zero, List.set_cons_succ]
  refine wpAnyH_take (i := 14) (oi := { dst := some 27, op := Op.move (Operand.tmp 6), type := 54, pos := "session.go:126", after := #[], guard := none }) (v := ?_) rfl (by kernel_rfl) (by kernel_rfl) (by kernel_rfl) (fun _ _ _ h => h) (Or.inl ⟨by rfl, ?_⟩) (by assumption) ?_
  rotate_left
  · (intro w hSw; (try dsimp only at hSw); go_simp; try with_reducible rfl)
  try simp only [Act.put, List.setIfInBounds_toArray, List.set_cons_zero, List.set_cons_succ]
  refine wpAnyH_ready (rs := [9]) (by kernel_rfl) (by simp) ?_
  refine AllReadyH.cons (o := { dst := some 22, op := Op.load 54 (Operand.tmp 21), type := 54, pos := "session.go:126", after := #[{ on := 8, ground := Ground.data }], guard := none }) rfl (fun K hK => ?_) ?_
  · go_simp
    refine hK.out _ _ ?_ (fun hHeld2 => ?_)
    · exact hHeld
    clear hHeld
    have hHeld := hHeld2
    clear hHeld2
    clear hK K
    try simp only [Act.put, List.setIfInBounds_toArray, List.set_cons_zero, List.set_cons_succ]
    refine wpAnyH_ready (rs := [15]) (by kernel_rfl) (by simp) ?_
    refine AllReadyH.cons (o := { dst := some 28, op := Op.call { callee := Callee.value (Operand.func 125), args := #[Operand.tmp 17, Operand.tmp 18, Operand.tmp 22, Operand.tmp 26, Operand.tmp 27], argTypes := #[28, 80, 54, 54, 54] }, type := 54, pos := "session.go:126", after := #[{ on := 4, ground := Ground.data }, { on := 5, ground := Ground.data }, { on := 9, ground := Ground.data }, { on := 13, ground := Ground.data }, { on := 14, ground := Ground.data }], guard := none }) rfl (fun K hK => ?_) ?_
    · go_simp
      refine Calls.mono (HBe.out _ _ _ (kc.up (Up.drew (Up.refl _))) (kv.up (Up.drew (Up.refl _))) (i2.up (Up.drew (Up.refl _)))) ?_
      rintro r w2 ⟨g1, c1, hc1, rfl, i1, _, hu2⟩
      have HC1 : Hid _ := hc1
      have hu12 : Up w1 w2 := Up.trans (Up.drew (Up.refl _)) hu2
      have hSC2 := HS1.out.up hu12
      have hg8 := hSC2.c8
      have hzg : ∀ o, w2.frozen? ⟨X, o, none⟩ = false := hSC2.fz
      have HSC2 : Hid _ := hSC2
      clear hSC2 hc1
      go_wp2_with fail
      refine hK.out _ _ ?_ (fun hHeld2 => ?_)
      · exact keepC9 hu2 hHeld
      clear hHeld
      have hHeld := hHeld2
      clear hHeld2
      clear hK K
      try simp only [Act.put, List.setIfInBounds_toArray, List.set_cons_zero, List.set_cons_succ]
      refine wpAnyH_take (i := 16) (oi := { dst := some 29, op := Op.nilCheck (Operand.tmp 13), type := 0, pos := "session.go:126", after := #[{ on := 0, ground := Ground.data }, { on := 0, ground := Ground.phase }, { on := 1, ground := Ground.phase }, { on := 2, ground := Ground.phase }, { on := 3, ground := Ground.phase }, { on := 4, ground := Ground.phase }, { on := 5, ground := Ground.phase }, { on := 6, ground := Ground.phase }, { on := 7, ground := Ground.phase }, { on := 8, ground := Ground.phase }, { on := 9, ground := Ground.phase }, { on := 10, ground := Ground.phase }, { on := 11, ground := Ground.phase }, { on := 12, ground := Ground.phase }, { on := 13, ground := Ground.phase }, { on := 14, ground := Ground.phase }, { on := 15, ground := Ground.phase }], guard := none }) (v := ?_) rfl (by kernel_rfl) (by kernel_rfl) (by kernel_rfl) (fun _ _ _ h => h) (Or.inl ⟨by rfl, ?_⟩) (by assumption) ?_
      rotate_left
      · (intro w hSw; (try dsimp only at hSw); go_simp; try with_reducible rfl)
      try simp only [Act.put, List.setIfInBounds_toArray, List.set_cons_zero, List.set_cons_succ]
      refine wpAnyH_take (i := 17) (oi := { dst := some 30, op := Op.fieldAddr 126 (Operand.tmp 29) 5, type := 0, pos := "session.go:126", after := #[{ on := 16, ground := Ground.data }, { on := 0, ground := Ground.phase }, { on := 1, ground := Ground.phase }, { on := 2, ground := Ground.phase }, { on := 3, ground := Ground.phase }, { on := 4, ground := Ground.phase }, { on := 5, ground := Ground.phase }, { on := 6, ground := Ground.phase }, { on := 7, ground := Ground.phase }, { on := 8, ground := Ground.phase }, { on := 9, ground := Ground.phase }, { on := 10, ground := Ground.phase }, { on := 11, ground := Ground.phase }, { on := 12, ground := Ground.phase }, { on := 13, ground := Ground.phase }, { on := 14, ground := Ground.phase }, { on := 15, ground := Ground.phase }], guard := none }) (v := ?_) rfl (by kernel_rfl) (by kernel_rfl) (by kernel_rfl) (fun _ _ _ h => h) (Or.inl ⟨by rfl, ?_⟩) (by assumption) ?_
      rotate_left
      · (intro w hSw; (try dsimp only at hSw); go_simp; try with_reducible rfl)
      try simp only [Act.put, List.setIfInBounds_toArray, List.set_cons_zero, List.set_cons_succ]
      refine wpAnyH_ready (rs := [18]) (by kernel_rfl) (by simp) ?_
      refine AllReadyH.cons (o := { dst := none, op := Op.store 54 (Operand.tmp 30) (Operand.tmp 28), type := 0, pos := "session.go:126", after := #[{ on := 17, ground := Ground.data }, { on := 15, ground := Ground.data }, { on := 15, ground := Ground.chain }, { on := 0, ground := Ground.phase }, { on := 1, ground := Ground.phase }, { on := 2, ground := Ground.phase }, { on := 3, ground := Ground.phase }, { on := 4, ground := Ground.phase }, { on := 5, ground := Ground.phase }, { on := 6, ground := Ground.phase }, { on := 7, ground := Ground.phase }, { on := 8, ground := Ground.phase }, { on := 9, ground := Ground.phase }, { on := 10, ground := Ground.phase }, { on := 11, ground := Ground.phase }, { on := 12, ground := Ground.phase }, { on := 13, ground := Ground.phase }, { on := 14, ground := Ground.phase }, { on := 15, ground := Ground.phase }], guard := none }) rfl (fun K hK => ?_) ?_
      · go_simp
        refine hK.out _ _ ?_ (fun hHeld2 => ?_)
        · exact ⟨(else_cell (by decide)).trans hHeld.1, (else_cell (by decide)).trans hHeld.2.1, (else_cell (by decide)).trans hHeld.2.2.1, (else_cell (by decide)).trans hHeld.2.2.2.1, (far_cell (by omega)).trans hHeld.2.2.2.2.1, (far_cell (by omega)).trans hHeld.2.2.2.2.2.1, (far_cell (by omega)).trans hHeld.2.2.2.2.2.2.1, (far_cell (by omega)).trans hHeld.2.2.2.2.2.2.2.1, (else_cell (by decide)).trans hHeld.2.2.2.2.2.2.2.2⟩
        clear hHeld
        have hHeld := hHeld2
        clear hHeld2
        clear hK K
        try simp only [Act.put, List.setIfInBounds_toArray, List.set_cons_zero, List.set_cons_succ]
        refine wpAnyH_done (by kernel_rfl) ?_ _
        refine NoPanic.normal ?_
        have hSC3 := HSC2.out.client (.slice (some ⟨g1, 0, none⟩) n c1)
        have j2 := i2.up hu12
        have n1 : g1 ≠ X := i1.ne_tag HSC2.out.tag (by rw [HFL.out]; omega) (by have := HFB.out 2 (by omega); omega)
        have n2 : g2 ≠ X := j2.ne_tag HSC2.out.tag (by rw [HML.out]; omega) (by have := HMB.out 2 (by omega); omega)
        have j1 := i1.set n1 8 (.slice (some ⟨g1, 0, none⟩) n c1)
        have j3 := j2.set n2 8 (.slice (some ⟨g1, 0, none⟩) n c1)
        have hm3 : Mut (fun k => k = X) w (w2.setCell ⟨X, 8, none⟩ (.slice (some ⟨g1, 0, none⟩) n c1)) := (huW.mutX.trans (hu1.mutX.trans hu12.mutX)).setX 8 _
        generalize (w2.setCell ⟨X, 8, none⟩ (.slice (some ⟨g1, 0, none⟩) n c1)) = W3 at hSC3 j1 j3 hm3 ⊢
        clear hHeld hu2 hu12 hS0 hS1 hS2 hS3 hS8 hS9 hL0 hL1 hL2 hL3 hg8 hzg HSC2 i1 i2 j2 kc kv
        have k7 := hSC3.c7
        have k9 := hSC3.c9
        have kz : ∀ o, W3.frozen? ⟨X, o, none⟩ = false := hSC3.fz
        have hSC4 := (hSC3.server (.slice (some ⟨g2, 0, none⟩) n c2)).next 0
        have HSC4 : Hid _ := hSC4
        have hm4 : Mut (fun k => k = X) w ((W3.setCell ⟨X, 9, none⟩ (.slice (some ⟨g2, 0, none⟩) n c2)).setCell ⟨X, 7, none⟩ (.int .i64 0)) := (hm3.setX 9 _).setX 7 _
        have jj1 := (j1.set n1 9 (.slice (some ⟨g2, 0, none⟩) n c2)).set n1 7 (.int .i64 0)
        have jj2 := (j3.set n2 9 (.slice (some ⟨g2, 0, none⟩) n c2)).set n2 7 (.int .i64 0)
        clear hSC3 hSC4 j1 j3
        go_wp2_with fail
        go_end0
        exact ⟨g1, c1, g2, c2, HC1.out, HC2.out, rfl, HSC4.out, jj1, jj2, hm4⟩
      exact AllReadyH.nil
    exact AllReadyH.nil
  exact AllReadyH.nil

/-- what Linear gives, in one form -/
theorem lin_any (n t d L : Nat) (q b : Int) (l x s m k : List UInt8) (bb : Bool) (sh : Int) (H cap : Nat) (gs caps : Nat → Nat) (gb cb g0 c0 g1 c1 gS cS gM cM H2 cap2 : Nat) (gs2 caps2 : Nat → Nat) (w : World) (g : NT n t) (hd : n / 2 = d) (hq : 2 ≤ q) (hq2 : q ≤ 1073741823) (hb : 1 ≤ b) (hb2 : b ≤ 8) (hL : DigOf q b L) (hl : layB l n t = true) (hx : ctB x n t q = true) (hs : okL s n 2 t = true) (hm : okL m n 2 t = true) (hk : tnB k (2 * n * L) q = true)
    (hR : RowsAt w H d d gs caps (matR n l)) (ib : IsI w gb (biasI n l)) (i0 : IsI w g0 (ct0 x n)) (i1 : IsI w g1 (ct1 x n)) (iS : IsI w gS (numsL s 2 n)) (iM : IsI w gM (numsL m 2 n)) (hR2 : RowsAt w H2 (2 * L) n gs2 caps2 (tkP k n)) (hcS : n ≤ cS) :
    Calls Tryz.prog 38 #[.agg #[.int .i64 n, .int .i64 t, .int .i64 q, .int .i64 b], .agg #[.bool bb, .int .i64 sh, .slice (some ⟨H, 0, none⟩) d cap, .slice (some ⟨gb, 0, none⟩) n cb], .agg #[.int .i64 (ctE x : Nat), .slice (some ⟨g0, 0, none⟩) n c0, .slice (some ⟨g1, 0, none⟩) n c1], .slice (some ⟨gS, 0, none⟩) n cS, .slice (some ⟨gM, 0, none⟩) n cM, .slice (some ⟨H2, 0, none⟩) L cap2] w fun r w' => ∃ (E : Int) (p0 : Option Addr) (x0 y0 : Nat) (p1 : Option Addr) (x1 y1 : Nat) (ok : Bool), r = .returned (.tuple #[.agg #[.int .i64 E, .slice p0 x0 y0, .slice p1 x1 y1], .bool ok]) ∧ Hid ((ok = true ∧ (linL n t q b L l x s m k).2 = 0 ∧ ctB (linL n t q b L l x s m k).1 n t q = true ∧ toldL (ctE (linL n t q b L l x s m k).1) (ct0 (linL n t q b L l x s m k).1 n) (ct1 (linL n t q b L l x s m k).1 n) = (linL n t q b L l x s m k).1 ∧ E = (ctE (linL n t q b L l x s m k).1 : Nat) ∧ ∃ h0 k0 h1 k1, p0 = some ⟨h0, 0, none⟩ ∧ n = x0 ∧ k0 = y0 ∧ p1 = some ⟨h1, 0, none⟩ ∧ n = x1 ∧ k1 = y1 ∧ IsI w' h0 (ct0 (linL n t q b L l x s m k).1 n) ∧ IsI w' h1 (ct1 (linL n t q b L l x s m k).1 n)) ∨ (ok = false ∧ (linL n t q b L l x s m k).2 = 4)) ∧ Up w w' := by
  refine (lin_out n t d L q b l x s m k bb sh H cap gs caps gb cb g0 c0 g1 c1 gS cS gM cM H2 cap2 gs2 caps2 w g hd hq hq2 hb hb2 hL hl hx hs hm hk hR ib i0 i1 iS iM hR2 hcS).mono ?_
  rintro r w' ⟨⟨h0, h1, h2, a, ka, c, kc, rfl, j0, j1⟩ | ⟨h0, rfl⟩, hu⟩
  · exact ⟨_, _, _, _, _, _, _, _, rfl, Or.inl ⟨rfl, h0, h1, h2, rfl, a, ka, c, kc, rfl, rfl, rfl, rfl, rfl, rfl, j0, j1⟩, hu⟩
  · exact ⟨_, _, _, _, _, _, _, _, rfl, Or.inr ⟨rfl, h0⟩, hu⟩

theorem far_cell3 {W : World} {G g o : Nat} {x0 x1 x2 : Value} (h : G ≠ g) : (((W.setCell ⟨G, 0, none⟩ x0).setCell ⟨G, 1, none⟩ x1).setCell ⟨G, 2, none⟩ x2).cell? ⟨g, o, none⟩ = W.cell? ⟨g, o, none⟩ := (far_cell h).trans ((far_cell h).trans (far_cell h))

theorem same_cell3 {W : World} {G : Nat} {x0 x1 x2 u0 u1 u2 : Value} (n0 : W.cell? ⟨G, 0, none⟩ = some u0) (n1 : W.cell? ⟨G, 1, none⟩ = some u1) (n2 : W.cell? ⟨G, 2, none⟩ = some u2) :
    (((W.setCell ⟨G, 0, none⟩ x0).setCell ⟨G, 1, none⟩ x1).setCell ⟨G, 2, none⟩ x2).cell? ⟨G, 0, none⟩ = some x0 ∧ (((W.setCell ⟨G, 0, none⟩ x0).setCell ⟨G, 1, none⟩ x1).setCell ⟨G, 2, none⟩ x2).cell? ⟨G, 1, none⟩ = some x1 ∧ (((W.setCell ⟨G, 0, none⟩ x0).setCell ⟨G, 1, none⟩ x1).setCell ⟨G, 2, none⟩ x2).cell? ⟨G, 2, none⟩ = some x2 := by
  have m1 := (else_cell (W := W) (r := G) (o := 0) (o' := 1) (x := x0) (by decide)).trans n1
  have m2 := (else_cell (W := W.setCell ⟨G, 0, none⟩ x0) (r := G) (o := 1) (o' := 2) (x := x1) (by decide)).trans ((else_cell (by decide)).trans n2)
  exact ⟨(else_cell (by decide)).trans ((else_cell (by decide)).trans (set_at n0)), (else_cell (by decide)).trans (set_at m1), set_at m2⟩

set_option maxHeartbeats 8000000 in
theorem answer_sess (X n t d L : Nat) (q b : Int) (l y tk : List UInt8) (sv : List Int) (H cap gb cb g0 c0 g1 c1 gv cv H2 cap2 : Nat) (gs caps gs2 caps2 : Nat → Nat) (vk vr : Value) (nx : Int) (vc : Value) (s : ByteArray) (w : World) (hs : s.size ≤ maxLen) (g : NT n t) (hd : n / 2 = d) (hq : 2 ≤ q) (hq2 : q ≤ 1073741823) (hb : 1 ≤ b) (hb2 : b ≤ 8) (hL : DigOf q b L) (htq : (t : Int) < q) (hl : layB l n t = true) (hy : ctB y n t q = true) (hk : tnB tk (2 * n * L) q = true) (ls : sv.length = n) (bs : ∀ i, i < n → 0 ≤ sv.getD i 0 ∧ sv.getD i 0 < (t : Int)) (hcv : n ≤ cv)
    (hS : SC w X n t q b vk (.slice (some ⟨H2, 0, none⟩) L cap2) vr nx vc (.slice (some ⟨gv, 0, none⟩) n cv) (.int .i64 (ctE y : Nat)) (.slice (some ⟨g0, 0, none⟩) n c0) (.slice (some ⟨g1, 0, none⟩) n c1)) (hR : RowsAt w H d d gs caps (matR n l)) (ib : IsI w gb (biasI n l)) (i0 : IsI w g0 (ct0 y n)) (i1 : IsI w g1 (ct1 y n)) (iv : IsI w gv sv) (hR2 : RowsAt w H2 (2 * L) n gs2 caps2 (tkP tk n)) :
    Calls Tryz.prog 79 #[.pointer (some ⟨X, 0, none⟩), .agg #[.bool (byteL l 1 == 1), .int .i64 (byteL l 2 : Nat), .slice (some ⟨H, 0, none⟩) d cap, .slice (some ⟨gb, 0, none⟩) n cb], .string s] w fun e w' => Mut (fun k => k = X) w w' ∧ (((linL n t q b L l y (textsL 2 sv) (textsL 2 (maskI n t s.data.toList)) tk).2 = 0 ∧ ctB (linL n t q b L l y (textsL 2 sv) (textsL 2 (maskI n t s.data.toList)) tk).1 n t q = true ∧ ∃ h0 k0 h1 k1 g2 c2, n ≤ c2 ∧ e = .returned (.tuple #[.string ⟨(linL n t q b L l y (textsL 2 sv) (textsL 2 (maskI n t s.data.toList)) tk).1.toArray⟩, .int .i64 0]) ∧ SC w' X n t q b vk (.slice (some ⟨H2, 0, none⟩) L cap2) vr 2 vc (.slice (some ⟨g2, 0, none⟩) n c2) (.int .i64 (ctE (linL n t q b L l y (textsL 2 sv) (textsL 2 (maskI n t s.data.toList)) tk).1 : Nat)) (.slice (some ⟨h0, 0, none⟩) n k0) (.slice (some ⟨h1, 0, none⟩) n k1) ∧ IsI w' g2 (maskI n t s.data.toList) ∧ IsI w' h0 (ct0 (linL n t q b L l y (textsL 2 sv) (textsL 2 (maskI n t s.data.toList)) tk).1 n) ∧ IsI w' h1 (ct1 (linL n t q b L l y (textsL 2 sv) (textsL 2 (maskI n t s.data.toList)) tk).1 n)) ∨
      ((linL n t q b L l y (textsL 2 sv) (textsL 2 (maskI n t s.data.toList)) tk).2 = 4 ∧ e = .returned (.tuple #[.string ⟨#[]⟩, .int .i64 4]) ∧ Up w w')) := by
  have hhf := g.half
  have ht := g.t3
  have ht2 := g.ht
  have hn4 : 4 ≤ n := by omega
  have hn16 : n ≤ 16 := by omega
  have h256 : ((256 ^ 2 : Nat) : Int) = 65536 := by decide
  have HMk : Hid _ := fun W => Mask_calls n t q b s W hs hn4 hn16 (by omega) ht2
  have HML : Hid _ := maskI_length n t s.data.toList
  have HMB : Hid _ := maskI_lt n t s.data.toList (by omega)
  have e1 := nums_texts sv n 2 t ls bs (by omega)
  have e2 := nums_texts (maskI n t s.data.toList) n 2 t HML.out HMB.out (by omega)
  have HLi : Hid (∀ (gM cM : Nat) W, RowsAt W H d d gs caps (matR n l) → IsI W gb (biasI n l) → IsI W g0 (ct0 y n) → IsI W g1 (ct1 y n) → IsI W gv sv → IsI W gM (maskI n t s.data.toList) → RowsAt W H2 (2 * L) n gs2 caps2 (tkP tk n) → Calls Tryz.prog 38 #[.agg #[.int .i64 n, .int .i64 t, .int .i64 q, .int .i64 b], .agg #[.bool (byteL l 1 == 1), .int .i64 (byteL l 2 : Nat), .slice (some ⟨H, 0, none⟩) d cap, .slice (some ⟨gb, 0, none⟩) n cb], .agg #[.int .i64 (ctE y : Nat), .slice (some ⟨g0, 0, none⟩) n c0, .slice (some ⟨g1, 0, none⟩) n c1], .slice (some ⟨gv, 0, none⟩) n cv, .slice (some ⟨gM, 0, none⟩) n cM, .slice (some ⟨H2, 0, none⟩) L cap2] W fun r w' => ∃ (E : Int) (p0 : Option Addr) (x0 y0 : Nat) (p1 : Option Addr) (x1 y1 : Nat) (ok : Bool), r = .returned (.tuple #[.agg #[.int .i64 E, .slice p0 x0 y0, .slice p1 x1 y1], .bool ok]) ∧ Hid ((ok = true ∧ (linL n t q b L l y (textsL 2 sv) (textsL 2 (maskI n t s.data.toList)) tk).2 = 0 ∧ ctB (linL n t q b L l y (textsL 2 sv) (textsL 2 (maskI n t s.data.toList)) tk).1 n t q = true ∧ toldL (ctE (linL n t q b L l y (textsL 2 sv) (textsL 2 (maskI n t s.data.toList)) tk).1) (ct0 (linL n t q b L l y (textsL 2 sv) (textsL 2 (maskI n t s.data.toList)) tk).1 n) (ct1 (linL n t q b L l y (textsL 2 sv) (textsL 2 (maskI n t s.data.toList)) tk).1 n) = (linL n t q b L l y (textsL 2 sv) (textsL 2 (maskI n t s.data.toList)) tk).1 ∧ E = (ctE (linL n t q b L l y (textsL 2 sv) (textsL 2 (maskI n t s.data.toList)) tk).1 : Nat) ∧ ∃ h0 k0 h1 k1, p0 = some ⟨h0, 0, none⟩ ∧ n = x0 ∧ k0 = y0 ∧ p1 = some ⟨h1, 0, none⟩ ∧ n = x1 ∧ k1 = y1 ∧ IsI w' h0 (ct0 (linL n t q b L l y (textsL 2 sv) (textsL 2 (maskI n t s.data.toList)) tk).1 n) ∧ IsI w' h1 (ct1 (linL n t q b L l y (textsL 2 sv) (textsL 2 (maskI n t s.data.toList)) tk).1 n)) ∨ (ok = false ∧ (linL n t q b L l y (textsL 2 sv) (textsL 2 (maskI n t s.data.toList)) tk).2 = 4)) ∧ Up W w') := fun gM cM W h1 h2 h3 h4 h5 h6 h7 =>
    lin_any n t d L q b l y (textsL 2 sv) (textsL 2 (maskI n t s.data.toList)) tk _ _ H cap gs caps gb cb g0 c0 g1 c1 gv cv gM cM H2 cap2 gs2 caps2 W g hd hq hq2 hb hb2 hL hl hy (okL_texts sv n 2 t ls bs (by omega)) (okL_texts _ n 2 t HML.out HMB.out (by omega)) hk h1 h2 h3 h4 (by rw [e1]; exact h5) (by rw [e2]; exact h6) h7 hcv
  have HWr : Hid (∀ (z : List UInt8) (g0 k0 g1 k1 : Nat) W, ctB z n t q = true → toldL (ctE z) (ct0 z n) (ct1 z n) = z → IsI W g0 (ct0 z n) → IsI W g1 (ct1 z n) → Calls Tryz.prog 83 #[.agg #[.int .i64 (ctE z : Nat), .slice (some ⟨g0, 0, none⟩) n k0, .slice (some ⟨g1, 0, none⟩) n k1]] W fun r w' => r = .returned (.string ⟨z.toArray⟩) ∧ Up W w') := fun z g0 k0 g1 k1 W h1 h2 h3 h4 => writeS n t q z g0 k0 g1 k1 W g hq hq2 h1 h2 h3 h4
  have HB0 : Hid (∀ z, ctB z n t q = true → (ct0 z n).getD 2 0 < q ∧ (ct1 z n).getD 2 0 < q) := fun z hz => ⟨(ct0_bounds z n t q hz 2 (by rw [ct0_length]; omega)).2, (ct1_bounds z n t q hz 2 (by rw [ct1_length]; omega)).2⟩
  have HLn : Hid (∀ z, (ct0 z n).length = n ∧ (ct1 z n).length = n) := fun z => ⟨ct0_length z n, ct1_length z n⟩
  generalize linL n t q b L l y (textsL 2 sv) (textsL 2 (maskI n t s.data.toList)) tk = ZZ at HLi ⊢
  generalize maskI n t s.data.toList = MM at HMk HML HMB HLi ⊢
  obtain ⟨Z, ze⟩ := ZZ
  dsimp only at HLi ⊢
  generalize (byteL l 1 == 1) = bb at HLi ⊢
  generalize byteL l 2 = sh at HLi ⊢
  clear e1 e2 h256 hL hl hy hk ls bs
  have hXw := hS.lt
  have HRR : Hid _ := hR
  have HR2 : Hid _ := hR2
  obtain ⟨W, hW⟩ : ∃ W, W = w.alloc (.cells #[.bool bb, .int .i64 (sh : Nat), .slice (some ⟨H, 0, none⟩) d cap, .slice (some ⟨gb, 0, none⟩) n cb] 80) := ⟨_, rfl⟩
  have huW : Up w W := by rw [hW]; exact (Up.refl _).alloc _
  have KL : Hid (W.cell? ⟨w.heap.size, 0, none⟩ = some (.bool bb) ∧ W.cell? ⟨w.heap.size, 1, none⟩ = some (.int .i64 (sh : Nat)) ∧ W.cell? ⟨w.heap.size, 2, none⟩ = some (.slice (some ⟨H, 0, none⟩) d cap) ∧ W.cell? ⟨w.heap.size, 3, none⟩ = some (.slice (some ⟨gb, 0, none⟩) n cb)) := by
    show _ ∧ _ ∧ _ ∧ _
    rw [hW]
    exact ⟨by simp [go_sem], by simp [go_sem], by simp [go_sem], by simp [go_sem]⟩
  have hSW := hS.up huW
  have HSW : Hid _ := hSW
  have hS0 := hSW.c0
  have hS1 := hSW.c1
  have hS2 := hSW.c2
  have hS3 := hSW.c3
  clear hS hSW hR hR2
  subst hW
  go_enter Tryz.func79, Tryz.ntmps79
  go_wp2_with fail
  refine Calls.mono (HMk.out _) ?_
  rintro r w1 ⟨g2, c2, hc2, rfl, i2, hu1⟩
  have HC2 : Hid _ := hc2
  have hS1' := HSW.out.up hu1
  have HS1 : Hid _ := hS1'
  clear hS0 hS1 hS2 hS3 hc2
  have hS0 := hS1'.c0
  have hS1 := hS1'.c1
  have hS2 := hS1'.c2
  have hS3 := hS1'.c3
  have hS5 := hS1'.c5
  have hS9 := hS1'.c9
  have hS10 := hS1'.c10
  have hS11 := hS1'.c11
  have hS12 := hS1'.c12
  obtain ⟨hL0, hL1, hL2, hL3⟩ := keepC4 hu1 KL.out
  have hu01 := huW.trans hu1
  have hw1 : w.heap.size < w1.heap.size := World.block_lt_of_cell? w1 ⟨w.heap.size, 0, none⟩ hL0
  clear hS1'
  go_wp2_with fail
  refine wp_region_noPanic ?_
  refine wp_region_held_drew (S := (fun w' => w'.cell? ⟨X, 0, none⟩ = some (.int .i64 (n : Int)) ∧ w'.cell? ⟨X, 1, none⟩ = some (.int .i64 (t : Int)) ∧ w'.cell? ⟨X, 2, none⟩ = some (.int .i64 q) ∧ w'.cell? ⟨X, 3, none⟩ = some (.int .i64 b) ∧ w'.cell? ⟨w.heap.size, 0, none⟩ = some (.bool bb) ∧ w'.cell? ⟨w.heap.size, 1, none⟩ = some (.int .i64 (sh : Nat)) ∧ w'.cell? ⟨w.heap.size, 2, none⟩ = some (.slice (some ⟨H, 0, none⟩) d cap) ∧ w'.cell? ⟨w.heap.size, 3, none⟩ = some (.slice (some ⟨gb, 0, none⟩) n cb) ∧ w'.cell? ⟨X, 10, none⟩ = some (.int .i64 (ctE y : Nat)) ∧ w'.cell? ⟨X, 11, none⟩ = some (.slice (some ⟨g0, 0, none⟩) n c0) ∧ w'.cell? ⟨X, 12, none⟩ = some (.slice (some ⟨g1, 0, none⟩) n c1) ∧ w'.cell? ⟨X, 9, none⟩ = some (.slice (some ⟨gv, 0, none⟩) n cv) ∧ w'.cell? ⟨X, 5, none⟩ = some (.slice (some ⟨H2, 0, none⟩) L cap2))) (by kernel_rfl) ?_ (fun hHeld => ?_)
  · exact ⟨hS0, hS1, hS2, hS3, hL0, hL1, hL2, hL3, hS10, hS11, hS12, hS9, hS5⟩
  refine wpAnyH_take (i := 0) (oi := { dst := some 18, op := Op.move (Operand.tmp 0), type := 38, pos := "session.go:106", after := #[], guard := none }) (v := ?_) rfl (by kernel_rfl) (by kernel_rfl) (by kernel_rfl) (fun _ _ _ h => h) (Or.inl ⟨by rfl, ?_⟩) (by assumption) ?_
  rotate_left
  · (intro w hSw; (try dsimp only at hSw); go_simp; try with_reducible rfl)
  try simp only [Act.put, List.setIfInBounds_toArray, List.set_cons_zero, List.set_cons_succ]
  refine wpAnyH_take (i := 1) (oi := { dst := some 19, op := Op.nilCheck (Operand.tmp 18), type := 0, pos := "session.go:106", after := #[{ on := 0, ground := Ground.data }], guard := none }) (v := ?_) rfl (by kernel_rfl) (by kernel_rfl) (by kernel_rfl) (fun _ _ _ h => h) (Or.inl ⟨by rfl, ?_⟩) (by assumption) ?_
  rotate_left
  · (intro w hSw; (try dsimp only at hSw); go_simp; try with_reducible rfl)
  try simp only [Act.put, List.setIfInBounds_toArray, List.set_cons_zero, List.set_cons_succ]
  refine wpAnyH_take (i := 2) (oi := { dst := some 20, op := Op.fieldAddr 126 (Operand.tmp 19) 0, type := 0, pos := "session.go:106", after := #[{ on := 1, ground := Ground.data }], guard := none }) (v := ?_) rfl (by kernel_rfl) (by kernel_rfl) (by kernel_rfl) (fun _ _ _ h => h) (Or.inl ⟨by rfl, ?_⟩) (by assumption) ?_
  rotate_left
  · (intro w hSw; (try dsimp only at hSw); go_simp; try with_reducible rfl)
  try simp only [Act.put, List.setIfInBounds_toArray, List.set_cons_zero, List.set_cons_succ]
  refine wpAnyH_take (i := 3) (oi := { dst := some 21, op := Op.load 28 (Operand.tmp 20), type := 28, pos := "session.go:106", after := #[{ on := 2, ground := Ground.data }], guard := none }) (v := ?_) rfl (by kernel_rfl) (by kernel_rfl) (by kernel_rfl) (fun _ _ _ h => h) (Or.inl ⟨by rfl, ?_⟩) (by assumption) ?_
  rotate_left
  · (intro w hSw; (try dsimp only at hSw); go_simp; try with_reducible rfl)
  try simp only [Act.put, List.setIfInBounds_toArray, List.set_cons_zero, List.set_cons_succ]
  refine wpAnyH_take (i := 4) (oi := { dst := some 22, op := Op.load 80 (Operand.tmp 4), type := 80, pos := "session.go:106", after := #[], guard := none }) (v := ?_) rfl (by kernel_rfl) (by kernel_rfl) (by kernel_rfl) (fun _ _ _ h => h) (Or.inl ⟨by rfl, ?_⟩) (by assumption) ?_
  rotate_left
  · (intro w hSw; (try dsimp only at hSw); go_simp; try with_reducible rfl)
  try simp only [Act.put, List.setIfInBounds_toArray, List.set_cons_zero, List.set_cons_succ]
  refine wpAnyH_take (i := 5) (oi := { dst := some 23, op := Op.move (Operand.tmp 0), type := 38, pos := "session.go:106", after := #[], guard := none }) (v := ?_) rfl (by kernel_rfl) (by kernel_rfl) (by kernel_rfl) (fun _ _ _ h => h) (Or.inl ⟨by rfl, ?_⟩) (by assumption) ?_
  rotate_left
  · (intro w hSw; (try dsimp only at hSw); go_simp; try with_reducible rfl)
  try simp only [Act.put, List.setIfInBounds_toArray, List.set_cons_zero, List.set_cons_succ]
  refine wpAnyH_take (i := 6) (oi := { dst := some 24, op := Op.nilCheck (Operand.tmp 23), type := 0, pos := "session.go:106", after := #[{ on := 5, ground := Ground.data }], guard := none }) (v := ?_) rfl (by kernel_rfl) (by kernel_rfl) (by kernel_rfl) (fun _ _ _ h => h) (Or.inl ⟨by rfl, ?_⟩) (by assumption) ?_
  rotate_left
  · (intro w hSw; (try dsimp only at hSw); go_simp; try with_reducible rfl)
  try simp only [Act.put, List.setIfInBounds_toArray, List.set_cons_zero, List.set_cons_succ]
  refine wpAnyH_take (i := 7) (oi := { dst := some 25, op := Op.fieldAddr 126 (Operand.tmp 24) 7, type := 0, pos := "session.go:106", after := #[{ on := 6, ground := Ground.data }], guard := none }) (v := ?_) rfl (by kernel_rfl) (by kernel_rfl) (by kernel_rfl) (fun _ _ _ h => h) (Or.inl ⟨by rfl, ?_⟩) (by assumption) ?_
  rotate_left
  · (intro w hSw; (try dsimp only at hSw); go_simp; try with_reducible rfl)
  try simp only [Act.put, List.setIfInBounds_toArray, List.set_cons_zero, List.set_cons_succ]
  refine wpAnyH_take (i := 8) (oi := { dst := some 26, op := Op.load 84 (Operand.tmp 25), type := 84, pos := "session.go:106", after := #[{ on := 7, ground := Ground.data }], guard := none }) (v := ?_) rfl (by kernel_rfl) (by kernel_rfl) (by kernel_rfl) (fun _ _ _ h => h) (Or.inl ⟨by rfl, ?_⟩) (by assumption) ?_
  rotate_left
  · (intro w hSw; (try dsimp only at hSw); go_simp; try with_reducible rfl)
  try simp only [Act.put, List.setIfInBounds_toArray, List.set_cons_zero, List.set_cons_succ]
  refine wpAnyH_take (i := 9) (oi := { dst := some 27, op := Op.move (Operand.tmp 0), type := 38, pos := "session.go:106", after := #[], guard := none }) (v := ?_) rfl (by kernel_rfl) (by kernel_rfl) (by kernel_rfl) (fun _ _ _ h => h) (Or.inl ⟨by rfl, ?_⟩) (by assumption) ?_
  rotate_left
  · (intro w hSw; (try dsimp only at hSw); go_simp; try with_reducible rfl)
  try simp only [Act.put, List.setIfInBounds_toArray, List.set_cons_zero, List.set_cons_succ]
  refine wpAnyH_take (i := 10) (oi := { dst := some 28, op := Op.nilCheck (Operand.tmp 27), type := 0, pos := "session.go:106", after := #[{ on := 9, ground := Ground.data }], guard := none }) (v := ?_) rfl (by kernel_rfl) (by kernel_rfl) (by kernel_rfl) (fun _ _ _ h => h) (Or.inl ⟨by rfl, ?_⟩) (by assumption) ?_
  rotate_left
  · (intro w hSw; (try dsimp only at hSw); go_simp; try with_reducible rfl)
  try simp only [Act.put, List.setIfInBounds_toArray, List.set_cons_zero, List.set_cons_succ]
  refine wpAnyH_take (i := 11) (oi := { dst := some 29, op := Op.fieldAddr 126 (Operand.tmp 28) 6, type := 0, pos := "session.go:106", after := #[{ on := 10, ground := Ground.data }], guard := none }) (v := ?_) rfl (by kernel_rfl) (by kernel_rfl) (by kernel_rfl) (fun _ _ _ h => h) (Or.inl ⟨by rfl, ?_⟩) (by assumption) ?_
  rotate_left
  · (intro w hSw; (try dsimp only at hSw); go_simp; try with_reducible rfl)
  try simp only [Act.put, List.setIfInBounds_toArray, List.set_cons_zero, List.set_cons_succ]
  refine wpAnyH_take (i := 12) (oi := { dst := some 30, op := Op.load 54 (Operand.tmp 29), type := 54, pos := "session.go:106", after := #[{ on := 11, ground := Ground.data }], guard := none }) (v := ?_) rfl (by kernel_rfl) (by kernel_rfl) (by kernel_rfl) (fun _ _ _ h => h) (Or.inl ⟨by rfl, ?_⟩) (by assumption) ?_
  rotate_left
  · (intro w hSw; (try dsimp only at hSw); go_simp; try with_reducible rfl)
  try simp only [Act.put, List.setIfInBounds_toArray, List.set_cons_zero, List.set_cons_succ]
  refine wpAnyH_take (i := 13) (oi := { dst := some 31, op := Op.move (Operand.tmp 8), type := 54, pos := "session.go:106", after := #[], guard := none }) (v := ?_) rfl (by kernel_rfl) (by kernel_rfl) (by kernel_rfl) (fun _ _ _ h => h) (Or.inl ⟨by rfl, ?_⟩) (by assumption) ?_
  rotate_left
  · (intro w hSw; (try dsimp only at hSw); go_simp; try with_reducible rfl)
  try simp only [Act.put, List.setIfInBounds_toArray, List.set_cons_zero, List.set_cons_succ]
  refine wpAnyH_take (i := 14) (oi := { dst := some 32, op := Op.move (Operand.tmp 0), type := 38, pos := "session.go:106", after := #[], guard := none }) (v := ?_) rfl (by kernel_rfl) (by kernel_rfl) (by kernel_rfl) (fun _ _ _ h => h) (Or.inl ⟨by rfl, ?_⟩) (by assumption) ?_
  rotate_left
  · (intro w hSw; (try dsimp only at hSw); go_simp; try with_reducible rfl)
  try simp only [Act.put, List.setIfInBounds_toArray, List.set_cons_zero, List.set_cons_succ]
  refine wpAnyH_take (i := 15) (oi := { dst := some 33, op := Op.nilCheck (Operand.tmp 32), type := 0, pos := "session.go:106", after := #[{ on := 14, ground := Ground.data }], guard := none }) (v := ?_) rfl (by kernel_rfl) (by kernel_rfl) (by kernel_rfl) (fun _ _ _ h => h) (Or.inl ⟨by rfl, ?_⟩) (by assumption) ?_
  rotate_left
  · (intro w hSw; (try dsimp only at hSw); go_simp; try with_reducible rfl)
  try simp only [Act.put, List.setIfInBounds_toArray, List.set_cons_zero, List.set_cons_succ]
  refine wpAnyH_take (i := 16) (oi := { dst := some 34, op := Op.fieldAddr 126 (Operand.tmp 33) 2, type := 0, pos := "session.go:106", after := #[{ on := 15, ground := Ground.data }], guard := none }) (v := ?_) rfl (by kernel_rfl) (by kernel_rfl) (by kernel_rfl) (fun _ _ _ h => h) (Or.inl ⟨by rfl, ?_⟩) (by assumption) ?_
  rotate_left
  · (intro w hSw; (try dsimp only at hSw); go_simp; try with_reducible rfl)
  try simp only [Act.put, List.setIfInBounds_toArray, List.set_cons_zero, List.set_cons_succ]
  refine wpAnyH_take (i := 17) (oi := { dst := some 35, op := Op.load 89 (Operand.tmp 34), type := 89, pos := "session.go:106", after := #[{ on := 16, ground := Ground.data }], guard := none }) (v := ?_) rfl (by kernel_rfl) (by kernel_rfl) (by kernel_rfl) (fun _ _ _ h => h) (Or.inl ⟨by rfl, ?_⟩) (by assumption) ?_
  rotate_left
  · (intro w hSw; (try dsimp only at hSw); go_simp; try with_reducible rfl)
  try simp only [Act.put, List.setIfInBounds_toArray, List.set_cons_zero, List.set_cons_succ]
  refine wpAnyH_ready (rs := [18, 22]) (by kernel_rfl) (by simp) ?_
  refine AllReadyH.cons (o := { dst := some 36, op := Op.call { callee := Callee.value (Operand.func 38), args := #[Operand.tmp 21, Operand.tmp 22, Operand.tmp 26, Operand.tmp 30, Operand.tmp 31, Operand.tmp 35], argTypes := #[28, 80, 84, 54, 54, 89] }, type := 92, pos := "session.go:106", after := #[{ on := 3, ground := Ground.data }, { on := 4, ground := Ground.data }, { on := 8, ground := Ground.data }, { on := 12, ground := Ground.data }, { on := 13, ground := Ground.data }, { on := 17, ground := Ground.data }], guard := none }) rfl (fun K hK => ?_) ?_
  · go_simp
    refine Calls.mono (HLi.out _ _ _ (HRR.out.up (hu01.trans (Up.drew (Up.refl _)))) (ib.up (hu01.trans (Up.drew (Up.refl _)))) (i0.up (hu01.trans (Up.drew (Up.refl _)))) (i1.up (hu01.trans (Up.drew (Up.refl _)))) (iv.up (hu01.trans (Up.drew (Up.refl _)))) (i2.up (Up.drew (Up.refl _))) (HR2.out.up (hu01.trans (Up.drew (Up.refl _))))) ?_
    rintro r w2 ⟨E, p0, x0, y0, p1, x1, y1, ok, rfl, HO, hu2⟩
    have hu12 : Up w1 w2 := Up.trans (Up.drew (Up.refl _)) hu2
    go_wp2_with fail
    refine hK.out _ _ ?_ (fun hHeld2 => ?_)
    · exact keepC13 hu2 hHeld
    clear hHeld
    have hHeld := hHeld2
    clear hHeld2
    clear hK K
    try simp only [Act.put, List.setIfInBounds_toArray, List.set_cons_zero, List.set_cons_succ]
    refine wpAnyH_take (i := 19) (oi := { dst := some 17, op := Op.move (Operand.tmp 36), type := 92, pos := "session.go:106", after := #[{ on := 18, ground := Ground.data }], guard := none }) (v := ?_) rfl (by kernel_rfl) (by kernel_rfl) (by kernel_rfl) (fun _ _ _ h => h) (Or.inl ⟨by rfl, ?_⟩) (by assumption) ?_
    rotate_left
    · (intro w hSw; (try dsimp only at hSw); go_simp; try with_reducible rfl)
    try simp only [Act.put, List.setIfInBounds_toArray, List.set_cons_zero, List.set_cons_succ]
    refine wpAnyH_take (i := 20) (oi := { dst := some 37, op := Op.extract (Operand.tmp 17) 0, type := 84, pos := "session.go:106", after := #[{ on := 19, ground := Ground.data }], guard := none }) (v := ?_) rfl (by kernel_rfl) (by kernel_rfl) (by kernel_rfl) (fun _ _ _ h => h) (Or.inl ⟨by rfl, ?_⟩) (by assumption) ?_
    rotate_left
    · (intro w hSw; (try dsimp only at hSw); go_simp; try with_reducible rfl)
    try simp only [Act.put, List.setIfInBounds_toArray, List.set_cons_zero, List.set_cons_succ]
    refine wpAnyH_take (i := 21) (oi := { dst := some 38, op := Op.extract (Operand.tmp 17) 1, type := 4, pos := "session.go:106", after := #[{ on := 19, ground := Ground.data }, { on := 23, ground := Ground.gcOnly Departure.lateStores }], guard := none }) (v := ?_) rfl (by kernel_rfl) (by kernel_rfl) (by kernel_rfl) (fun _ _ _ h => h) (Or.inl ⟨by rfl, ?_⟩) (by assumption) ?_
    rotate_left
    · (intro w hSw; (try dsimp only at hSw); go_simp; try with_reducible rfl)
    try simp only [Act.put, List.setIfInBounds_toArray, List.set_cons_zero, List.set_cons_succ]
    refine wpAnyH_ready (rs := [22]) (by kernel_rfl) (by simp) ?_
    refine AllReadyH.cons (o := { dst := some 9, op := Op.alloc 84, type := 0, pos := "session.go:106", after := #[], guard := none }) rfl (fun K hK => ?_) ?_
    · go_simp
      refine hK.out _ _ ?_ (fun hHeld2 => ?_)
      · exact keepC13 (Up.alloc (Up.refl _) _) hHeld
      clear hHeld
      have hHeld := hHeld2
      clear hHeld2
      clear hK K
      try simp only [Act.put, List.setIfInBounds_toArray, List.set_cons_zero, List.set_cons_succ]
      refine wpAnyH_ready (rs := [23]) (by kernel_rfl) (by simp) ?_
      refine AllReadyH.cons (o := { dst := none, op := Op.store 84 (Operand.tmp 9) (Operand.tmp 37), type := 0, pos := "session.go:106", after := #[{ on := 22, ground := Ground.data }, { on := 20, ground := Ground.data }, { on := 18, ground := Ground.chain }, { on := 0, ground := Ground.phase }, { on := 1, ground := Ground.phase }, { on := 2, ground := Ground.phase }, { on := 3, ground := Ground.phase }, { on := 4, ground := Ground.phase }, { on := 5, ground := Ground.phase }, { on := 6, ground := Ground.phase }, { on := 7, ground := Ground.phase }, { on := 8, ground := Ground.phase }, { on := 9, ground := Ground.phase }, { on := 10, ground := Ground.phase }, { on := 11, ground := Ground.phase }, { on := 12, ground := Ground.phase }, { on := 13, ground := Ground.phase }, { on := 14, ground := Ground.phase }, { on := 15, ground := Ground.phase }, { on := 16, ground := Ground.phase }, { on := 17, ground := Ground.phase }, { on := 18, ground := Ground.phase }, { on := 19, ground := Ground.phase }, { on := 20, ground := Ground.phase }, { on := 21, ground := Ground.textOnly Departure.lateStores }, { on := 22, ground := Ground.phase }], guard := none }) rfl (fun K hK => ?_) ?_
      · go_simp
        refine hK.out _ _ ?_ (fun hHeld2 => ?_)
        · exact keepC13 (Up.alloc hu12 _) ⟨hS0, hS1, hS2, hS3, hL0, hL1, hL2, hL3, hS10, hS11, hS12, hS9, hS5⟩
        clear hHeld
        have hHeld := hHeld2
        clear hHeld2
        clear hK K
        try simp only [Act.put, List.setIfInBounds_toArray, List.set_cons_zero, List.set_cons_succ]
        refine wpAnyH_take (i := 24) (oi := { dst := some 10, op := Op.assign (Operand.tmp 38), type := 4, pos := "session.go:106", after := #[{ on := 21, ground := Ground.data }, { on := 23, ground := Ground.chain }, { on := 0, ground := Ground.phase }, { on := 1, ground := Ground.phase }, { on := 2, ground := Ground.phase }, { on := 3, ground := Ground.phase }, { on := 4, ground := Ground.phase }, { on := 5, ground := Ground.phase }, { on := 6, ground := Ground.phase }, { on := 7, ground := Ground.phase }, { on := 8, ground := Ground.phase }, { on := 9, ground := Ground.phase }, { on := 10, ground := Ground.phase }, { on := 11, ground := Ground.phase }, { on := 12, ground := Ground.phase }, { on := 13, ground := Ground.phase }, { on := 14, ground := Ground.phase }, { on := 15, ground := Ground.phase }, { on := 16, ground := Ground.phase }, { on := 17, ground := Ground.phase }, { on := 18, ground := Ground.phase }, { on := 19, ground := Ground.phase }, { on := 20, ground := Ground.phase }, { on := 21, ground := Ground.phase }, { on := 22, ground := Ground.phase }, { on := 23, ground := Ground.phase }], guard := none }) (v := ?_) rfl (by kernel_rfl) (by kernel_rfl) (by kernel_rfl) (fun _ _ _ h => h) (Or.inl ⟨by rfl, ?_⟩) (by assumption) ?_
        rotate_left
        · (intro w hSw; (try dsimp only at hSw); go_simp; try with_reducible rfl)
        try simp only [Act.put, List.setIfInBounds_toArray, List.set_cons_zero, List.set_cons_succ]
        refine wpAnyH_done (by kernel_rfl) ?_ _
        refine NoPanic.normal ?_
        have hG0 : (w2.alloc (.cells #[.int .i64 E, .slice p0 x0 y0, .slice p1 x1 y1] 84)).cell? ⟨w2.heap.size, 0, none⟩ = some (.int .i64 E) := by simp
        have hG1 : (w2.alloc (.cells #[.int .i64 E, .slice p0 x0 y0, .slice p1 x1 y1] 84)).cell? ⟨w2.heap.size, 1, none⟩ = some (.slice p0 x0 y0) := by simp
        have hG2 : (w2.alloc (.cells #[.int .i64 E, .slice p0 x0 y0, .slice p1 x1 y1] 84)).cell? ⟨w2.heap.size, 2, none⟩ = some (.slice p1 x1 y1) := by simp
        have HIs : Hid (∀ h z, IsI w2 h z → 1 < z.length → IsI (w2.alloc (.cells #[.int .i64 E, .slice p0 x0 y0, .slice p1 x1 y1] 84)) h z) := fun h z hi _ => hi.up ((Up.refl _).alloc _)
        have hu1W : Up w1 (w2.alloc (.cells #[.int .i64 E, .slice p0 x0 y0, .slice p1 x1 y1] 84)) := hu12.alloc _
        have hGX : X < w2.heap.size := by have := hu12.size; omega
        generalize (w2.alloc (.cells #[.int .i64 E, .slice p0 x0 y0, .slice p1 x1 y1] 84)) = W2 at hG0 hG1 hG2 HIs hu1W ⊢
        generalize w2.heap.size = G at hG0 hG1 hG2 hGX ⊢
        clear hHeld hu2 hu12 hS0 hS1 hS2 hS3 hS5 hS9 hS10 hS11 hS12 hL0 hL1 hL2 hL3
        skip
        have hSC2 := HS1.out.up hu1W
        have HSC2 : Hid _ := hSC2
        have j2 := i2.up hu1W
        have hall : Up w W2 := hu01.trans hu1W
        clear hu1W hu01 hu1 huW hw1 hXw i0 i1 i2 iv ib hSC2
        have hXG : ¬ X = G := by omega
        have hGX2 : ¬ G = X := by omega
        rcases HO.out with ⟨rfl, hz0, hzc, hzt, rfl, h0, k0, h1, k1, rfl, rfl, rfl, rfl, rfl, rfl, y0, y1⟩ | ⟨rfl, hz4⟩
        · have j0 := HIs.out _ _ y0 (by rw [(HLn.out _).1]; omega)
          have j1 := HIs.out _ _ y1 (by rw [(HLn.out _).2]; omega)
          have HZC : Hid _ := hzc
          have HZT : Hid _ := hzt
          have HZ0 : Hid _ := hz0
          clear hzc hzt hz0 y0 y1 HIs HO
          have n0 : h0 ≠ X := j0.ne_tag HSC2.out.tag (by rw [(HLn.out _).1]; omega) (HB0.out _ HZC.out).1
          have n1 : h1 ≠ X := j1.ne_tag HSC2.out.tag (by rw [(HLn.out _).2]; omega) (HB0.out _ HZC.out).2
          have n2 : g2 ≠ X := j2.ne_tag HSC2.out.tag (by rw [HML.out]; omega) (by have := HMB.out 2 (by omega); omega)
          have k7 := HSC2.out.c7
          have k9 := HSC2.out.c9
          have k10 := HSC2.out.c10
          have k11 := HSC2.out.c11
          have k12 := HSC2.out.c12
          have kz : ∀ o, W2.frozen? ⟨X, o, none⟩ = false := HSC2.out.fz
          have HSC4 : Hid _ := ((((HSC2.out.p0 (.int .i64 (ctE Z : Nat))).p1 (.slice (some ⟨h0, 0, none⟩) n k0)).p2 (.slice (some ⟨h1, 0, none⟩) n k1)).server (.slice (some ⟨g2, 0, none⟩) n c2)).next 2
          have jj0 := ((((j0.set n0 10 (.int .i64 (ctE Z : Nat))).set n0 11 (.slice (some ⟨h0, 0, none⟩) n k0)).set n0 12 (.slice (some ⟨h1, 0, none⟩) n k1)).set n0 9 (.slice (some ⟨g2, 0, none⟩) n c2)).set n0 7 (.int .i64 2)
          have jj1 := ((((j1.set n1 10 (.int .i64 (ctE Z : Nat))).set n1 11 (.slice (some ⟨h0, 0, none⟩) n k0)).set n1 12 (.slice (some ⟨h1, 0, none⟩) n k1)).set n1 9 (.slice (some ⟨g2, 0, none⟩) n c2)).set n1 7 (.int .i64 2)
          have jj2 := ((((j2.set n2 10 (.int .i64 (ctE Z : Nat))).set n2 11 (.slice (some ⟨h0, 0, none⟩) n k0)).set n2 12 (.slice (some ⟨h1, 0, none⟩) n k1)).set n2 9 (.slice (some ⟨g2, 0, none⟩) n c2)).set n2 7 (.int .i64 2)
          have hm4 : Mut (fun k => k = X) w (((((W2.setCell ⟨X, 10, none⟩ (.int .i64 (ctE Z : Nat))).setCell ⟨X, 11, none⟩ (.slice (some ⟨h0, 0, none⟩) n k0)).setCell ⟨X, 12, none⟩ (.slice (some ⟨h1, 0, none⟩) n k1)).setCell ⟨X, 9, none⟩ (.slice (some ⟨g2, 0, none⟩) n c2)).setCell ⟨X, 7, none⟩ (.int .i64 2)) := ((((hall.mutX.setX 10 _).setX 11 _).setX 12 _).setX 9 _).setX 7 _
          clear j0 j1 j2
          go_wp2_with fail
          refine Calls.mono (HWr.out Z _ _ _ _ _ HZC.out HZT.out jj0 jj1) ?_
          rintro r w5 ⟨rfl, hu5⟩
          clear k7 k9 k10 k11 k12 kz hG0 hG1 hG2
          go_wp2_with fail
          go_ret2
          exact ⟨hm4.trans hu5.mutX, Or.inl ⟨HZ0.out, HZC.out, h0, k0, h1, k1, g2, c2, HC2.out, rfl, HSC4.out.up hu5, jj2.up hu5, jj0.up hu5, jj1.up hu5⟩⟩
        · have HZ4 : Hid _ := hz4
          clear hz4 HIs HO hG0 hG1 hG2
          go_wp2_with fail
          go_ret2
          exact ⟨hall.mutX, Or.inr ⟨HZ4.out, rfl, hall⟩⟩
      exact AllReadyH.nil
    exact AllReadyH.nil
  refine AllReadyH.cons (o := { dst := some 9, op := Op.alloc 84, type := 0, pos := "session.go:106", after := #[], guard := none }) rfl (fun K hK => ?_) ?_
  · go_simp
    refine hK.out _ _ ?_ (fun hHeld2 => ?_)
    · exact keepC13 (Up.drew (Up.alloc (Up.refl w1) _)) ⟨hS0, hS1, hS2, hS3, hL0, hL1, hL2, hL3, hS10, hS11, hS12, hS9, hS5⟩
    clear hHeld
    have hHeld := hHeld2
    clear hHeld2
    clear hK K
    try simp only [Act.put, List.setIfInBounds_toArray, List.set_cons_zero, List.set_cons_succ]
    refine wpAnyH_ready (rs := [18]) (by kernel_rfl) (by simp) ?_
    refine AllReadyH.cons (o := { dst := some 36, op := Op.call { callee := Callee.value (Operand.func 38), args := #[Operand.tmp 21, Operand.tmp 22, Operand.tmp 26, Operand.tmp 30, Operand.tmp 31, Operand.tmp 35], argTypes := #[28, 80, 84, 54, 54, 89] }, type := 92, pos := "session.go:106", after := #[{ on := 3, ground := Ground.data }, { on := 4, ground := Ground.data }, { on := 8, ground := Ground.data }, { on := 12, ground := Ground.data }, { on := 13, ground := Ground.data }, { on := 17, ground := Ground.data }], guard := none }) rfl (fun K hK => ?_) ?_
    · go_simp
      refine Calls.mono (HLi.out _ _ _ (HRR.out.up (hu01.trans (Up.drew (Up.alloc (Up.refl _) _)))) (ib.up (hu01.trans (Up.drew (Up.alloc (Up.refl _) _)))) (i0.up (hu01.trans (Up.drew (Up.alloc (Up.refl _) _)))) (i1.up (hu01.trans (Up.drew (Up.alloc (Up.refl _) _)))) (iv.up (hu01.trans (Up.drew (Up.alloc (Up.refl _) _)))) (i2.up (Up.drew (Up.alloc (Up.refl _) _))) (HR2.out.up (hu01.trans (Up.drew (Up.alloc (Up.refl _) _))))) ?_
      rintro r w2 ⟨E, p0, x0, y0, p1, x1, y1, ok, rfl, HO, hu2⟩
      have hu12 : Up w1 w2 := Up.trans (Up.drew (Up.alloc (Up.refl _) _)) hu2
      have hg0 := keepC (p := ⟨w1.heap.size, 0, none⟩) hu2 (by simp; rfl)
      have hg1 := keepC (p := ⟨w1.heap.size, 1, none⟩) hu2 (by simp; rfl)
      have hg2 := keepC (p := ⟨w1.heap.size, 2, none⟩) hu2 (by simp; rfl)
      have hzg : ∀ o, w2.frozen? ⟨w1.heap.size, o, none⟩ = false := fun o => frozen_upN hu2 (by simp; rfl) (by simp)
      go_wp2_with fail
      refine hK.out _ _ ?_ (fun hHeld2 => ?_)
      · exact keepC13 hu2 hHeld
      clear hHeld
      have hHeld := hHeld2
      clear hHeld2
      clear hK K
      try simp only [Act.put, List.setIfInBounds_toArray, List.set_cons_zero, List.set_cons_succ]
      refine wpAnyH_take (i := 19) (oi := { dst := some 17, op := Op.move (Operand.tmp 36), type := 92, pos := "session.go:106", after := #[{ on := 18, ground := Ground.data }], guard := none }) (v := ?_) rfl (by kernel_rfl) (by kernel_rfl) (by kernel_rfl) (fun _ _ _ h => h) (Or.inl ⟨by rfl, ?_⟩) (by assumption) ?_
      rotate_left
      · (intro w hSw; (try dsimp only at hSw); go_simp; try with_reducible rfl)
      try simp only [Act.put, List.setIfInBounds_toArray, List.set_cons_zero, List.set_cons_succ]
      refine wpAnyH_take (i := 20) (oi := { dst := some 37, op := Op.extract (Operand.tmp 17) 0, type := 84, pos := "session.go:106", after := #[{ on := 19, ground := Ground.data }], guard := none }) (v := ?_) rfl (by kernel_rfl) (by kernel_rfl) (by kernel_rfl) (fun _ _ _ h => h) (Or.inl ⟨by rfl, ?_⟩) (by assumption) ?_
      rotate_left
      · (intro w hSw; (try dsimp only at hSw); go_simp; try with_reducible rfl)
      try simp only [Act.put, List.setIfInBounds_toArray, List.set_cons_zero, List.set_cons_succ]
      refine wpAnyH_take (i := 21) (oi := { dst := some 38, op := Op.extract (Operand.tmp 17) 1, type := 4, pos := "session.go:106", after := #[{ on := 19, ground := Ground.data }, { on := 23, ground := Ground.gcOnly Departure.lateStores }], guard := none }) (v := ?_) rfl (by kernel_rfl) (by kernel_rfl) (by kernel_rfl) (fun _ _ _ h => h) (Or.inl ⟨by rfl, ?_⟩) (by assumption) ?_
      rotate_left
      · (intro w hSw; (try dsimp only at hSw); go_simp; try with_reducible rfl)
      try simp only [Act.put, List.setIfInBounds_toArray, List.set_cons_zero, List.set_cons_succ]
      refine wpAnyH_ready (rs := [23]) (by kernel_rfl) (by simp) ?_
      refine AllReadyH.cons (o := { dst := none, op := Op.store 84 (Operand.tmp 9) (Operand.tmp 37), type := 0, pos := "session.go:106", after := #[{ on := 22, ground := Ground.data }, { on := 20, ground := Ground.data }, { on := 18, ground := Ground.chain }, { on := 0, ground := Ground.phase }, { on := 1, ground := Ground.phase }, { on := 2, ground := Ground.phase }, { on := 3, ground := Ground.phase }, { on := 4, ground := Ground.phase }, { on := 5, ground := Ground.phase }, { on := 6, ground := Ground.phase }, { on := 7, ground := Ground.phase }, { on := 8, ground := Ground.phase }, { on := 9, ground := Ground.phase }, { on := 10, ground := Ground.phase }, { on := 11, ground := Ground.phase }, { on := 12, ground := Ground.phase }, { on := 13, ground := Ground.phase }, { on := 14, ground := Ground.phase }, { on := 15, ground := Ground.phase }, { on := 16, ground := Ground.phase }, { on := 17, ground := Ground.phase }, { on := 18, ground := Ground.phase }, { on := 19, ground := Ground.phase }, { on := 20, ground := Ground.phase }, { on := 21, ground := Ground.textOnly Departure.lateStores }, { on := 22, ground := Ground.phase }], guard := none }) rfl (fun K hK => ?_) ?_
      · go_simp
        refine hK.out _ _ ?_ (fun hHeld2 => ?_)
        · exact ⟨(far_cell3 (by omega)).trans hHeld.1, (far_cell3 (by omega)).trans hHeld.2.1, (far_cell3 (by omega)).trans hHeld.2.2.1, (far_cell3 (by omega)).trans hHeld.2.2.2.1, (far_cell3 (by omega)).trans hHeld.2.2.2.2.1, (far_cell3 (by omega)).trans hHeld.2.2.2.2.2.1, (far_cell3 (by omega)).trans hHeld.2.2.2.2.2.2.1, (far_cell3 (by omega)).trans hHeld.2.2.2.2.2.2.2.1, (far_cell3 (by omega)).trans hHeld.2.2.2.2.2.2.2.2.1, (far_cell3 (by omega)).trans hHeld.2.2.2.2.2.2.2.2.2.1, (far_cell3 (by omega)).trans hHeld.2.2.2.2.2.2.2.2.2.2.1, (far_cell3 (by omega)).trans hHeld.2.2.2.2.2.2.2.2.2.2.2.1, (far_cell3 (by omega)).trans hHeld.2.2.2.2.2.2.2.2.2.2.2.2⟩
        clear hHeld
        have hHeld := hHeld2
        clear hHeld2
        clear hK K
        try simp only [Act.put, List.setIfInBounds_toArray, List.set_cons_zero, List.set_cons_succ]
        refine wpAnyH_take (i := 24) (oi := { dst := some 10, op := Op.assign (Operand.tmp 38), type := 4, pos := "session.go:106", after := #[{ on := 21, ground := Ground.data }, { on := 23, ground := Ground.chain }, { on := 0, ground := Ground.phase }, { on := 1, ground := Ground.phase }, { on := 2, ground := Ground.phase }, { on := 3, ground := Ground.phase }, { on := 4, ground := Ground.phase }, { on := 5, ground := Ground.phase }, { on := 6, ground := Ground.phase }, { on := 7, ground := Ground.phase }, { on := 8, ground := Ground.phase }, { on := 9, ground := Ground.phase }, { on := 10, ground := Ground.phase }, { on := 11, ground := Ground.phase }, { on := 12, ground := Ground.phase }, { on := 13, ground := Ground.phase }, { on := 14, ground := Ground.phase }, { on := 15, ground := Ground.phase }, { on := 16, ground := Ground.phase }, { on := 17, ground := Ground.phase }, { on := 18, ground := Ground.phase }, { on := 19, ground := Ground.phase }, { on := 20, ground := Ground.phase }, { on := 21, ground := Ground.phase }, { on := 22, ground := Ground.phase }, { on := 23, ground := Ground.phase }], guard := none }) (v := ?_) rfl (by kernel_rfl) (by kernel_rfl) (by kernel_rfl) (fun _ _ _ h => h) (Or.inl ⟨by rfl, ?_⟩) (by assumption) ?_
        rotate_left
        · (intro w hSw; (try dsimp only at hSw); go_simp; try with_reducible rfl)
        try simp only [Act.put, List.setIfInBounds_toArray, List.set_cons_zero, List.set_cons_succ]
        refine wpAnyH_done (by kernel_rfl) ?_ _
        refine NoPanic.normal ?_
        obtain ⟨hG0, hG1, hG2⟩ := same_cell3 (x0 := .int .i64 E) (x1 := .slice p0 x0 y0) (x2 := .slice p1 x1 y1) hg0 hg1 hg2
        have HIs : Hid (∀ h z, IsI w2 h z → 1 < z.length → IsI (((w2.setCell ⟨w1.heap.size, 0, none⟩ (.int .i64 E)).setCell ⟨w1.heap.size, 1, none⟩ (.slice p0 x0 y0)).setCell ⟨w1.heap.size, 2, none⟩ (.slice p1 x1 y1)) h z) := fun h z hi hl => ((hi.set (hi.ne hl hg1) _ _).set (hi.ne hl hg1) _ _).set (hi.ne hl hg1) _ _
        have hu1W : Up w1 (((w2.setCell ⟨w1.heap.size, 0, none⟩ (.int .i64 E)).setCell ⟨w1.heap.size, 1, none⟩ (.slice p0 x0 y0)).setCell ⟨w1.heap.size, 2, none⟩ (.slice p1 x1 y1)) := ((hu12.setCell (by simp) _).setCell (by simp) _).setCell (by simp) _
        have hGX : X < w1.heap.size := by omega
        generalize (((w2.setCell ⟨w1.heap.size, 0, none⟩ (.int .i64 E)).setCell ⟨w1.heap.size, 1, none⟩ (.slice p0 x0 y0)).setCell ⟨w1.heap.size, 2, none⟩ (.slice p1 x1 y1)) = W2 at hG0 hG1 hG2 HIs hu1W ⊢
        obtain ⟨G, hG⟩ : ∃ G, G = w1.heap.size := ⟨_, rfl⟩
        rw [← hG] at hG0 hG1 hG2 hGX ⊢
        clear hG
        clear hHeld hu2 hu12 hS0 hS1 hS2 hS3 hS5 hS9 hS10 hS11 hS12 hL0 hL1 hL2 hL3
        clear hg0 hg1 hg2 hzg
        have hSC2 := HS1.out.up hu1W
        have HSC2 : Hid _ := hSC2
        have j2 := i2.up hu1W
        have hall : Up w W2 := hu01.trans hu1W
        clear hu1W hu01 hu1 huW hw1 hXw i0 i1 i2 iv ib hSC2
        have hXG : ¬ X = G := by omega
        have hGX2 : ¬ G = X := by omega
        rcases HO.out with ⟨rfl, hz0, hzc, hzt, rfl, h0, k0, h1, k1, rfl, rfl, rfl, rfl, rfl, rfl, y0, y1⟩ | ⟨rfl, hz4⟩
        · have j0 := HIs.out _ _ y0 (by rw [(HLn.out _).1]; omega)
          have j1 := HIs.out _ _ y1 (by rw [(HLn.out _).2]; omega)
          have HZC : Hid _ := hzc
          have HZT : Hid _ := hzt
          have HZ0 : Hid _ := hz0
          clear hzc hzt hz0 y0 y1 HIs HO
          have n0 : h0 ≠ X := j0.ne_tag HSC2.out.tag (by rw [(HLn.out _).1]; omega) (HB0.out _ HZC.out).1
          have n1 : h1 ≠ X := j1.ne_tag HSC2.out.tag (by rw [(HLn.out _).2]; omega) (HB0.out _ HZC.out).2
          have n2 : g2 ≠ X := j2.ne_tag HSC2.out.tag (by rw [HML.out]; omega) (by have := HMB.out 2 (by omega); omega)
          have k7 := HSC2.out.c7
          have k9 := HSC2.out.c9
          have k10 := HSC2.out.c10
          have k11 := HSC2.out.c11
          have k12 := HSC2.out.c12
          have kz : ∀ o, W2.frozen? ⟨X, o, none⟩ = false := HSC2.out.fz
          have HSC4 : Hid _ := ((((HSC2.out.p0 (.int .i64 (ctE Z : Nat))).p1 (.slice (some ⟨h0, 0, none⟩) n k0)).p2 (.slice (some ⟨h1, 0, none⟩) n k1)).server (.slice (some ⟨g2, 0, none⟩) n c2)).next 2
          have jj0 := ((((j0.set n0 10 (.int .i64 (ctE Z : Nat))).set n0 11 (.slice (some ⟨h0, 0, none⟩) n k0)).set n0 12 (.slice (some ⟨h1, 0, none⟩) n k1)).set n0 9 (.slice (some ⟨g2, 0, none⟩) n c2)).set n0 7 (.int .i64 2)
          have jj1 := ((((j1.set n1 10 (.int .i64 (ctE Z : Nat))).set n1 11 (.slice (some ⟨h0, 0, none⟩) n k0)).set n1 12 (.slice (some ⟨h1, 0, none⟩) n k1)).set n1 9 (.slice (some ⟨g2, 0, none⟩) n c2)).set n1 7 (.int .i64 2)
          have jj2 := ((((j2.set n2 10 (.int .i64 (ctE Z : Nat))).set n2 11 (.slice (some ⟨h0, 0, none⟩) n k0)).set n2 12 (.slice (some ⟨h1, 0, none⟩) n k1)).set n2 9 (.slice (some ⟨g2, 0, none⟩) n c2)).set n2 7 (.int .i64 2)
          have hm4 : Mut (fun k => k = X) w (((((W2.setCell ⟨X, 10, none⟩ (.int .i64 (ctE Z : Nat))).setCell ⟨X, 11, none⟩ (.slice (some ⟨h0, 0, none⟩) n k0)).setCell ⟨X, 12, none⟩ (.slice (some ⟨h1, 0, none⟩) n k1)).setCell ⟨X, 9, none⟩ (.slice (some ⟨g2, 0, none⟩) n c2)).setCell ⟨X, 7, none⟩ (.int .i64 2)) := ((((hall.mutX.setX 10 _).setX 11 _).setX 12 _).setX 9 _).setX 7 _
          clear j0 j1 j2
          go_wp2_with fail
          refine Calls.mono (HWr.out Z _ _ _ _ _ HZC.out HZT.out jj0 jj1) ?_
          rintro r w5 ⟨rfl, hu5⟩
          clear k7 k9 k10 k11 k12 kz hG0 hG1 hG2
          go_wp2_with fail
          go_ret2
          exact ⟨hm4.trans hu5.mutX, Or.inl ⟨HZ0.out, HZC.out, h0, k0, h1, k1, g2, c2, HC2.out, rfl, HSC4.out.up hu5, jj2.up hu5, jj0.up hu5, jj1.up hu5⟩⟩
        · have HZ4 : Hid _ := hz4
          clear hz4 HIs HO hG0 hG1 hG2
          go_wp2_with fail
          go_ret2
          exact ⟨hall.mutX, Or.inr ⟨HZ4.out, rfl, hall⟩⟩
      exact AllReadyH.nil
    exact AllReadyH.nil
  exact AllReadyH.nil

end Go.Proofs.YtcjhgbljhpflfabGreat

namespace Go.Proofs.YtcjhgbljhpflfabGreat
open Go.RowKit
set_option linter.unusedVariables false
set_option maxRecDepth 100000

/-- a list stays while a session's later cells turn -/
theorem IsI.sess {w w' : World} {g X n t : Nat} {q b : Int} {xs : List Int} {p : Option Addr} {x y : Nat} {vt vr vc vs v0 v1 v2 vt' vr' vc' vs' v0' v1' v2' vk' : Value} {nx nx' : Int} (h : IsI w g xs) (m : Mut (fun k => k = X) w w') (a : SC w X n t q b (.slice p x y) vt vr nx vc vs v0 v1 v2) (a' : SC w' X n t q b vk' vt' vr' nx' vc' vs' v0' v1' v2') : IsI w' g xs := by
  refine ⟨Nat.lt_of_lt_of_le h.1 m.size, fun i hi => ?_⟩
  by_cases e : g = X
  · subst e
    by_cases h4 : 4 < xs.length
    · have := h.2 4 h4
      rw [a.c4] at this
      cases this
    · have hc := h.2 i hi
      match i, hc, hi with
      | 0, hc, _ => rw [a.c0] at hc; rw [a'.c0]; exact hc
      | 1, hc, _ => rw [a.c1] at hc; rw [a'.c1]; exact hc
      | 2, hc, _ => rw [a.c2] at hc; rw [a'.c2]; exact hc
      | 3, hc, _ => rw [a.c3] at hc; rw [a'.c3]; exact hc
      | i + 4, _, hi => omega
  · exact m.cell (h.2 i hi) e

theorem RowsAt.sess {w w' : World} {H k l X n t : Nat} {gs caps : Nat → Nat} {P : Nat → List Int} {q b : Int} {p : Option Addr} {x y : Nat} {vt vr vc vs v0 v1 v2 vt' vr' vc' vs' v0' v1' v2' vk' : Value} {nx nx' : Int} (h : RowsAt w H k l gs caps P) (hk : 0 < k) (m : Mut (fun k => k = X) w w') (a : SC w X n t q b (.slice p x y) vt vr nx vc vs v0 v1 v2) (a' : SC w' X n t q b vk' vt' vr' nx' vc' vs' v0' v1' v2') : RowsAt w' H k l gs caps P := by
  have hne : H ≠ X := by
    rintro rfl
    have := h.head 0 hk
    rw [a.c0] at this
    cases this
  exact ⟨Nat.lt_of_lt_of_le h.lt m.size, fun i hi => m.cell (h.head i hi) hne, fun i hi => (h.row i hi).sess m a a'⟩

theorem LayX.sess {w w' : World} {X n t d nn : Nat} {l : List UInt8} {a0 a1 a2 a3 : Value} {q b : Int} {p : Option Addr} {x y : Nat} {vt vr vc vs v0 v1 v2 vt' vr' vc' vs' v0' v1' v2' vk' : Value} {nx nx' : Int} (h : LayX w nn d l a0 a1 a2 a3) (hd : 0 < d) (m : Mut (fun k => k = X) w w') (a : SC w X n t q b (.slice p x y) vt vr nx vc vs v0 v1 v2) (a' : SC w' X n t q b vk' vt' vr' nx' vc' vs' v0' v1' v2') : LayX w' nn d l a0 a1 a2 a3 := by
  obtain ⟨H, cap, gs, caps, gb, cb, e0, e1, e2, e3, hR, ib⟩ := h
  exact ⟨H, cap, gs, caps, gb, cb, e0, e1, e2, e3, hR.sess hd m a a', ib.sess m a a'⟩

theorem NetAt.sess {w w' : World} {H nn d N X n t : Nat} {l : List UInt8} {q b : Int} {p : Option Addr} {x y : Nat} {vt vr vc vs v0 v1 v2 vt' vr' vc' vs' v0' v1' v2' vk' : Value} {nx nx' : Int} (h : NetAt w H nn d N l) (hN : 0 < N) (hd : 0 < d) (m : Mut (fun k => k = X) w w') (a : SC w X n t q b (.slice p x y) vt vr nx vc vs v0 v1 v2) (a' : SC w' X n t q b vk' vt' vr' nx' vc' vs' v0' v1' v2') : NetAt w' H nn d N l := by
  have hne : H ≠ X := by
    rintro rfl
    obtain ⟨a0, a1, a2, a3, c0, c1, c2, c3, H', cap, gs, caps, gb, cb, rfl, _⟩ := h.lay 0 hN
    have : w.cell? ⟨H, 0, none⟩ = _ := c0
    rw [a.c0] at this
    cases this
  refine ⟨Nat.lt_of_lt_of_le h.lt m.size, fun i hi => ?_⟩
  obtain ⟨a0, a1, a2, a3, c0, c1, c2, c3, hx⟩ := h.lay i hi
  exact ⟨a0, a1, a2, a3, m.cell c0 hne, m.cell c1 hne, m.cell c2 hne, m.cell c3 hne, hx.sess hd m a a'⟩

/-- where a session stands: both shares, what was said last -/
structure St where
  cl : List Int
  sv : List Int
  y : List UInt8

/-- what never turns in a session -/
structure Dat where
  n : Nat
  t : Nat
  q : Int
  b : Int
  L : Nat
  key : List UInt8
  tk : List UInt8
  net : List UInt8

structure Dat.Ok (D : Dat) : Prop where
  nt : NT D.n D.t
  q1 : 2 ≤ D.q
  q2 : D.q ≤ 1073741823
  b1 : 1 ≤ D.b
  b2 : D.b ≤ 8
  good : goodB D.n D.t D.q D.b = true
  fit : fitsB D.t D.q 2 = true
  dig : DigOf D.q D.b D.L
  sec : secB D.key D.n = true
  turn : tnB D.tk (2 * D.n * D.L) D.q = true
  net : netB D.net D.n D.t = true

abbrev Dat.N (D : Dat) : Nat := byteL D.net 1

structure St.Ok (s : St) (D : Dat) (r : Nat) : Prop where
  lc : s.cl.length = D.n
  ls : s.sv.length = D.n
  bc : ∀ i, i < D.n → 0 ≤ s.cl.getD i 0 ∧ s.cl.getD i 0 < (D.t : Int)
  bs : ∀ i, i < D.n → 0 ≤ s.sv.getD i 0 ∧ s.sv.getD i 0 < (D.t : Int)
  ct : (r = 1 ∨ r = 2) → ctB s.y D.n D.t D.q = true

/-- a session in memory, ahead of step r of layer j -/
def SessAt (w : World) (X : Nat) (D : Dat) (j r : Nat) (s : St) : Prop :=
  ∃ (gk ck H2 cap2 : Nat) (gs2 caps2 : Nat → Nat) (HN o capN gc cc gv cv : Nat) (v0 v1 v2 : Value),
    SC w X D.n D.t D.q D.b (.slice (some ⟨gk, 0, none⟩) D.n ck) (.slice (some ⟨H2, 0, none⟩) D.L cap2) (.slice (some ⟨HN, o, none⟩) (D.N - j) capN) (r : Nat) (.slice (some ⟨gc, 0, none⟩) D.n cc) (.slice (some ⟨gv, 0, none⟩) D.n cv) v0 v1 v2 ∧
    D.n ≤ cv ∧ (D.N - j ≤ capN ∧ (j < D.N → o = j * 4)) ∧ IsI w gk (secI D.key D.n) ∧ RowsAt w H2 (2 * D.L) D.n gs2 caps2 (tkP D.tk D.n) ∧ NetAt w HN D.n (D.n / 2) D.N D.net ∧ IsI w gc s.cl ∧ IsI w gv s.sv ∧
    ((r = 1 ∨ r = 2) → ∃ g0 c0 g1 c1, v0 = .int .i64 (ctE s.y : Nat) ∧ v1 = .slice (some ⟨g0, 0, none⟩) D.n c0 ∧ v2 = .slice (some ⟨g1, 0, none⟩) D.n c1 ∧ IsI w g0 (ct0 s.y D.n) ∧ IsI w g1 (ct1 s.y D.n))

theorem SessAt.up {w w' : World} {X : Nat} {D : Dat} {j r : Nat} {s : St} (h : SessAt w X D j r s) (hu : Up w w') : SessAt w' X D j r s := by
  obtain ⟨gk, ck, H2, cap2, gs2, caps2, HN, o, capN, gc, cc, gv, cv, v0, v1, v2, h1, h2, h3, h4, h5, h6, h7, h8, h9⟩ := h
  refine ⟨gk, ck, H2, cap2, gs2, caps2, HN, o, capN, gc, cc, gv, cv, v0, v1, v2, h1.up hu, h2, h3, h4.up hu, h5.up hu, h6.up hu, h7.up hu, h8.up hu, fun hr => ?_⟩
  obtain ⟨g0, c0, g1, c1, e0, e1, e2, i0, i1⟩ := h9 hr
  exact ⟨g0, c0, g1, c1, e0, e1, e2, i0.up hu, i1.up hu⟩

theorem SessAt.lt {w : World} {X : Nat} {D : Dat} {j r : Nat} {s : St} (h : SessAt w X D j r s) : X < w.heap.size := by
  obtain ⟨gk, ck, H2, cap2, gs2, caps2, HN, o, capN, gc, cc, gv, cv, v0, v1, v2, h1, _⟩ := h
  exact h1.lt

theorem half_pos {n t : Nat} (g : NT n t) : 0 < n / 2 := by have := g.half; omega

theorem Dat.Ok.N1 {D : Dat} (h : D.Ok) : 1 ≤ D.N ∧ D.N ≤ 3 := ⟨((netB_iff _ _ _).1 h.net).2.2.1, ((netB_iff _ _ _).1 h.net).2.2.2.1⟩

theorem Dat.Ok.lay {D : Dat} (h : D.Ok) (j : Nat) (hj : j < D.N) : layB (layOf D.n D.net j) D.n D.t = true := ((netB_iff _ _ _).1 h.net).2.2.2.2.2 j hj

theorem Dat.Ok.tq {D : Dat} (h : D.Ok) : (D.t : Int) < D.q := fits_q h.nt.t3 h.q1 h.fit

theorem Dat.Ok.L1 {D : Dat} (h : D.Ok) : 0 < 2 * D.L := by have := h.dig.pos h.q1; omega

/-- what the steps make -/
def St.sent (s : St) (D : Dat) (d : List UInt8) : St := { s with y := hideL D.n D.t D.q D.key (textsL 2 s.cl) d }
def linS1 (D : Dat) (j : Nat) (s : St) (d : List UInt8) : List UInt8 × Int := linL D.n D.t D.q D.b D.L (layOf D.n D.net j) s.y (textsL 2 s.sv) (textsL 2 (maskI D.n D.t d)) D.tk
def St.answered (s : St) (D : Dat) (j : Nat) (d : List UInt8) : St := { s with y := (linS1 D j s d).1, sv := maskI D.n D.t d }
def St.opened (s : St) (D : Dat) : St := { s with cl := decI D.n D.t (openI D.n D.t D.q (plusI D.n (ct0 s.y D.n) (timesI D.n (ct1 s.y D.n) (secI D.key D.n) D.q) D.q)) }
def St.bent (s : St) (D : Dat) (j : Nat) (d : List UInt8) : St := { s with cl := bendI D.n D.t (layOf D.n D.net j) s.cl s.sv (maskI D.n D.t d), sv := maskI D.n D.t d }

/-- the cells of the layer that comes next -/
theorem lay_cells {w : World} {HN n d N j : Nat} {net : List UInt8} (h : NetAt w HN n d N net) (hj : j < N) :
    ∃ (H cap : Nat) (gs caps : Nat → Nat) (gb cb : Nat), w.cell? ⟨HN, j * 4, none⟩ = some (.bool (byteL (layOf n net j) 1 == 1)) ∧ w.cell? ⟨HN, j * 4 + 1, none⟩ = some (.int .i64 (byteL (layOf n net j) 2 : Nat)) ∧ w.cell? ⟨HN, j * 4 + 2, none⟩ = some (.slice (some ⟨H, 0, none⟩) d cap) ∧ w.cell? ⟨HN, j * 4 + 3, none⟩ = some (.slice (some ⟨gb, 0, none⟩) n cb) ∧ RowsAt w H d d gs caps (matR n (layOf n net j)) ∧ IsI w gb (biasI n (layOf n net j)) := by
  obtain ⟨a0, a1, a2, a3, c0, c1, c2, c3, H, cap, gs, caps, gb, cb, rfl, rfl, rfl, rfl, hR, ib⟩ := h.lay j hj
  rw [Nat.mul_comm 4 j] at c0 c1 c2 c3
  exact ⟨H, cap, gs, caps, gb, cb, c0, c1, c2, c3, hR, ib⟩

set_option maxHeartbeats 2000000 in
theorem Step_end (X : Nat) (D : Dat) (j r : Nat) (s : St) (d : ByteArray) (w : World) (hj : D.N ≤ j) (h : SessAt w X D j r s) :
    Calls Tryz.prog 29 #[.pointer (some ⟨X, 0, none⟩), .string d] w fun e w' => e = .returned (.tuple #[.string ⟨#[]⟩, .int .i64 5]) ∧ w' = w := by
  obtain ⟨gk, ck, H2, cap2, gs2, caps2, HN, o, capN, gc, cc, gv, cv, v0, v1, v2, h1, _⟩ := h
  have c6 := h1.c6
  rw [show D.N - j = 0 by omega] at c6
  clear h1
  go_enter Tryz.func29, Tryz.ntmps29
  go_wp2_with fail
  go_ret2
  exact ⟨rfl, rfl⟩

set_option maxHeartbeats 4000000 in
theorem Step_0 (X : Nat) (D : Dat) (j : Nat) (s : St) (d : ByteArray) (w : World) (hd : d.size ≤ maxLen) (O : D.Ok) (hs : s.Ok D 0) (hj : j < D.N) (h : SessAt w X D j 0 s) :
    Calls Tryz.prog 29 #[.pointer (some ⟨X, 0, none⟩), .string d] w fun e w' => e = .returned (.tuple #[.string ⟨(s.sent D d.data.toList).y.toArray⟩, .int .i64 0]) ∧ SessAt w' X D j 1 (s.sent D d.data.toList) ∧ Mut (fun k => k = X) w w' := by
  obtain ⟨gk, ck, H2, cap2, gs2, caps2, HN, o, capN, gc, cc, gv, cv, v0, v1, v2, h1, h2, h3, h4, h5, h6, h7, h8, h9⟩ := h
  obtain rfl : o = j * 4 := h3.2 hj
  obtain ⟨H, cap, gs, caps, gb, cb, k0, k1, k2, k3, _, _⟩ := lay_cells h6 hj
  obtain ⟨M, hM⟩ : ∃ M, D.N - j = M + 1 := ⟨D.N - j - 1, by omega⟩
  have c6 := h1.c6
  have c7 := h1.c7
  rw [hM] at c6
  generalize (byteL (layOf D.n D.net j) 1 == 1) = bb at k0
  generalize byteL (layOf D.n D.net j) 2 = sh at k1
  have HSe : Hid _ := fun W h1 h2 h3 => send_calls X D.n D.t D.q D.b D.key s.cl gk ck gc cc (.slice (some ⟨H2, 0, none⟩) D.L cap2) (.slice (some ⟨HN, j * 4, none⟩) (D.N - j) capN) ((0 : Nat) : Int) (.slice (some ⟨gv, 0, none⟩) D.n cv) v0 v1 v2 d W hd O.nt O.q1 O.q2 O.fit hs.lc hs.bc h1 h2 h3
  obtain ⟨W, hW⟩ : ∃ W, W = w.alloc (.cells #[.bool bb, .int .i64 (sh : Nat), .slice (some ⟨H, 0, none⟩) (D.n / 2) cap, .slice (some ⟨gb, 0, none⟩) D.n cb] 80) := ⟨_, rfl⟩
  have huW : Up w W := by rw [hW]; exact (Up.refl _).alloc _
  have h1W := h1.up huW
  have H1W : Hid _ := h1W
  have K3 : Hid _ := h3.1
  have K9 : Hid _ := h9
  have d6 := h1W.c6
  have d7 := h1W.c7
  rw [hM] at d6
  clear h3 h9 h1 h1W
  subst hW
  go_enter Tryz.func29, Tryz.ntmps29
  go_wp2_with fail
  refine Calls.mono (HSe.out _ H1W.out (h4.up huW) (h7.up huW)) ?_
  rintro e w1 ⟨g0, c0, g1, c1, rfl, hS, i0, i1, m⟩
  have HS : Hid _ := hS
  clear c6 c7 d6 d7 k0 k1 k2 k3 hS
  go_wp2_with fail
  go_ret2
  refine ⟨rfl, ⟨gk, ck, H2, cap2, gs2, caps2, HN, _, capN, gc, cc, gv, cv, _, _, _, HS.out, h2, ⟨K3.out, fun _ => rfl⟩, (h4.up huW).sess m H1W.out HS.out, (h5.up huW).sess O.L1 m H1W.out HS.out, (h6.up huW).sess (by omega) (half_pos O.nt) m H1W.out HS.out, (h7.up huW).sess m H1W.out HS.out, (h8.up huW).sess m H1W.out HS.out, fun _ => ⟨g0, c0, g1, c1, rfl, rfl, rfl, i0, i1⟩⟩, huW.mutX.trans m⟩

set_option maxHeartbeats 4000000 in
theorem Step_1 (X : Nat) (D : Dat) (j : Nat) (s : St) (d : ByteArray) (w : World) (hd : d.size ≤ maxLen) (O : D.Ok) (hs : s.Ok D 1) (hj : j < D.N) (h : SessAt w X D j 1 s) :
    Calls Tryz.prog 29 #[.pointer (some ⟨X, 0, none⟩), .string d] w fun e w' => Mut (fun k => k = X) w w' ∧ (((linS1 D j s d.data.toList).2 = 0 ∧ ctB (linS1 D j s d.data.toList).1 D.n D.t D.q = true ∧ e = .returned (.tuple #[.string ⟨(linS1 D j s d.data.toList).1.toArray⟩, .int .i64 0]) ∧ SessAt w' X D j 2 (s.answered D j d.data.toList)) ∨ ((linS1 D j s d.data.toList).2 = 4 ∧ e = .returned (.tuple #[.string ⟨#[]⟩, .int .i64 4]) ∧ SessAt w' X D j 1 s)) := by
  have hh := h
  obtain ⟨gk, ck, H2, cap2, gs2, caps2, HN, o, capN, gc, cc, gv, cv, v0, v1, v2, h1, h2, h3, h4, h5, h6, h7, h8, h9⟩ := h
  obtain ⟨g0, c0, g1, c1, rfl, rfl, rfl, i0, i1⟩ := h9 (Or.inl rfl)
  obtain rfl : o = j * 4 := h3.2 hj
  obtain ⟨H, cap, gs, caps, gb, cb, k0, k1, k2, k3, hR, ib⟩ := lay_cells h6 hj
  obtain ⟨M, hM⟩ : ∃ M, D.N - j = M + 1 := ⟨D.N - j - 1, by omega⟩
  have c6 := h1.c6
  have c7 := h1.c7
  rw [hM] at c6
  have HAn : Hid _ := fun W a1 a2 a3 a4 a5 a6 a7 => answer_sess X D.n D.t (D.n / 2) D.L D.q D.b (layOf D.n D.net j) s.y D.tk s.sv H cap gb cb g0 c0 g1 c1 gv cv H2 cap2 gs caps gs2 caps2 (.slice (some ⟨gk, 0, none⟩) D.n ck) (.slice (some ⟨HN, j * 4, none⟩) (D.N - j) capN) ((1 : Nat) : Int) (.slice (some ⟨gc, 0, none⟩) D.n cc) d W hd O.nt rfl O.q1 O.q2 O.b1 O.b2 O.dig O.tq (O.lay j hj) (hs.ct (Or.inl rfl)) O.turn hs.ls hs.bs h2 a1 a2 a3 a4 a5 a6 a7
  obtain ⟨W, hW⟩ : ∃ W, W = w.alloc (.cells #[.bool (byteL (layOf D.n D.net j) 1 == 1), .int .i64 (byteL (layOf D.n D.net j) 2 : Nat), .slice (some ⟨H, 0, none⟩) (D.n / 2) cap, .slice (some ⟨gb, 0, none⟩) D.n cb] 80) := ⟨_, rfl⟩
  have huW : Up w W := by rw [hW]; exact (Up.refl _).alloc _
  have h1W := h1.up huW
  have H1W : Hid _ := h1W
  have K3 : Hid _ := h3.1
  have d6 := h1W.c6
  have d7 := h1W.c7
  rw [hM] at d6
  have l0 : W.cell? ⟨w.heap.size, 0, none⟩ = some (.bool (byteL (layOf D.n D.net j) 1 == 1)) := by rw [hW]; simp [go_sem]
  have l1 : W.cell? ⟨w.heap.size, 1, none⟩ = some (.int .i64 (byteL (layOf D.n D.net j) 2 : Nat)) := by rw [hW]; simp [go_sem]
  have l2 : W.cell? ⟨w.heap.size, 2, none⟩ = some (.slice (some ⟨H, 0, none⟩) (D.n / 2) cap) := by rw [hW]; simp [go_sem]
  have l3 : W.cell? ⟨w.heap.size, 3, none⟩ = some (.slice (some ⟨gb, 0, none⟩) D.n cb) := by rw [hW]; simp [go_sem]
  have HRR : Hid _ := hR.up huW
  have HHH : Hid (∀ w', Up W w' → SessAt w' X D j 1 s) := fun w' hu => (hh.up huW).up hu
  clear h3 h9 h1 h1W hR hh
  subst hW
  go_enter Tryz.func29, Tryz.ntmps29
  go_wp2_with fail
  refine Calls.mono (HAn.out _ H1W.out HRR.out (ib.up huW) (i0.up huW) (i1.up huW) (h8.up huW) (h5.up huW)) ?_
  rintro e w1 ⟨m, hcase⟩
  clear c6 c7 d6 d7 k0 k1 k2 k3 l0 l1 l2 l3
  rcases hcase with ⟨z0, zc, x0, y0, x1, y1, g2, c2, hc2, rfl, hS, j2, j0, j1⟩ | ⟨z4, rfl, hu⟩
  · have HS : Hid _ := hS
    have HZ0 : Hid _ := z0
    have HZC : Hid _ := zc
    have HC2 : Hid _ := hc2
    clear hS z0 zc hc2
    go_wp2_with fail
    go_ret2
    exact ⟨huW.mutX.trans m, Or.inl ⟨HZ0.out, HZC.out, rfl, gk, ck, H2, cap2, gs2, caps2, HN, _, capN, gc, cc, g2, c2, _, _, _, HS.out, HC2.out, ⟨K3.out, fun _ => rfl⟩, (h4.up huW).sess m H1W.out HS.out, (h5.up huW).sess O.L1 m H1W.out HS.out, (h6.up huW).sess (by omega) (half_pos O.nt) m H1W.out HS.out, (h7.up huW).sess m H1W.out HS.out, j2, fun _ => ⟨x0, y0, x1, y1, rfl, rfl, rfl, j0, j1⟩⟩⟩
  · have HZ4 : Hid _ := z4
    clear z4
    go_wp2_with fail
    go_ret2
    exact ⟨huW.mutX.trans m, Or.inr ⟨HZ4.out, rfl, HHH.out _ hu⟩⟩

set_option maxHeartbeats 4000000 in
theorem Step_2 (X : Nat) (D : Dat) (j : Nat) (s : St) (d : ByteArray) (w : World) (O : D.Ok) (hs : s.Ok D 2) (hj : j < D.N) (h : SessAt w X D j 2 s) :
    Calls Tryz.prog 29 #[.pointer (some ⟨X, 0, none⟩), .string d] w fun e w' => e = .returned (.tuple #[.string ⟨#[]⟩, .int .i64 0]) ∧ SessAt w' X D j 3 (s.opened D) ∧ Mut (fun k => k = X) w w' := by
  obtain ⟨gk, ck, H2, cap2, gs2, caps2, HN, o, capN, gc, cc, gv, cv, v0, v1, v2, h1, h2, h3, h4, h5, h6, h7, h8, h9⟩ := h
  obtain ⟨g0, c0, g1, c1, rfl, rfl, rfl, i0, i1⟩ := h9 (Or.inr rfl)
  obtain rfl : o = j * 4 := h3.2 hj
  obtain ⟨H, cap, gs, caps, gb, cb, k0, k1, k2, k3, _, _⟩ := lay_cells h6 hj
  obtain ⟨M, hM⟩ : ∃ M, D.N - j = M + 1 := ⟨D.N - j - 1, by omega⟩
  have c6 := h1.c6
  have c7 := h1.c7
  rw [hM] at c6
  have HOp : Hid _ := fun W a1 a2 a3 a4 => open_sess X D.n D.t D.q D.b D.key s.y gk ck g0 c0 g1 c1 (.slice (some ⟨H2, 0, none⟩) D.L cap2) (.slice (some ⟨HN, j * 4, none⟩) (D.N - j) capN) ((2 : Nat) : Int) (.slice (some ⟨gc, 0, none⟩) D.n cc) (.slice (some ⟨gv, 0, none⟩) D.n cv) W O.nt O.q1 O.q2 (hs.ct (Or.inr rfl)) a1 a2 a3 a4 O.tq
  obtain ⟨W, hW⟩ : ∃ W, W = w.alloc (.cells #[.bool (byteL (layOf D.n D.net j) 1 == 1), .int .i64 (byteL (layOf D.n D.net j) 2 : Nat), .slice (some ⟨H, 0, none⟩) (D.n / 2) cap, .slice (some ⟨gb, 0, none⟩) D.n cb] 80) := ⟨_, rfl⟩
  have huW : Up w W := by rw [hW]; exact (Up.refl _).alloc _
  have h1W := h1.up huW
  have H1W : Hid _ := h1W
  have K3 : Hid _ := h3.1
  have d6 := h1W.c6
  have d7 := h1W.c7
  rw [hM] at d6
  have l0 : W.cell? ⟨w.heap.size, 0, none⟩ = some (.bool (byteL (layOf D.n D.net j) 1 == 1)) := by rw [hW]; simp [go_sem]
  have l1 : W.cell? ⟨w.heap.size, 1, none⟩ = some (.int .i64 (byteL (layOf D.n D.net j) 2 : Nat)) := by rw [hW]; simp [go_sem]
  have l2 : W.cell? ⟨w.heap.size, 2, none⟩ = some (.slice (some ⟨H, 0, none⟩) (D.n / 2) cap) := by rw [hW]; simp [go_sem]
  have l3 : W.cell? ⟨w.heap.size, 3, none⟩ = some (.slice (some ⟨gb, 0, none⟩) D.n cb) := by rw [hW]; simp [go_sem]
  clear h3 h9 h1 h1W
  subst hW
  go_enter Tryz.func29, Tryz.ntmps29
  go_wp2_with fail
  refine Calls.mono (HOp.out _ H1W.out (h4.up huW) (i0.up huW) (i1.up huW)) ?_
  rintro e w1 ⟨gx, cx, hcx, rfl, hS, ix, m⟩
  have HS : Hid _ := hS
  clear c6 c7 d6 d7 k0 k1 k2 k3 l0 l1 l2 l3 hS hcx
  go_wp2_with fail
  go_ret2
  exact ⟨rfl, ⟨gk, ck, H2, cap2, gs2, caps2, HN, _, capN, gx, cx, gv, cv, _, _, _, HS.out, h2, ⟨K3.out, fun _ => rfl⟩, (h4.up huW).sess m H1W.out HS.out, (h5.up huW).sess O.L1 m H1W.out HS.out, (h6.up huW).sess (by omega) (half_pos O.nt) m H1W.out HS.out, ix, (h8.up huW).sess m H1W.out HS.out, fun hr => by omega⟩, huW.mutX.trans m⟩

set_option maxHeartbeats 4000000 in
theorem Step_3 (X : Nat) (D : Dat) (j : Nat) (s : St) (d : ByteArray) (w : World) (hd : d.size ≤ maxLen) (O : D.Ok) (hs : s.Ok D 3) (hj : j < D.N) (h : SessAt w X D j 3 s) :
    Calls Tryz.prog 29 #[.pointer (some ⟨X, 0, none⟩), .string d] w fun e w' => e = .returned (.tuple #[.string ⟨#[]⟩, .int .i64 0]) ∧ SessAt w' X D (j + 1) 0 (s.bent D j d.data.toList) ∧ Mut (fun k => k = X) w w' := by
  obtain ⟨gk, ck, H2, cap2, gs2, caps2, HN, o, capN, gc, cc, gv, cv, v0, v1, v2, h1, h2, h3, h4, h5, h6, h7, h8, h9⟩ := h
  obtain rfl : o = j * 4 := h3.2 hj
  obtain ⟨H, cap, gs, caps, gb, cb, k0, k1, k2, k3, _, _⟩ := lay_cells h6 hj
  obtain ⟨M, hM⟩ : ∃ M, D.N - j = M + 1 := ⟨D.N - j - 1, by omega⟩
  have c6 := h1.c6
  have c7 := h1.c7
  rw [hM] at c6
  have hcM : M + 1 ≤ capN := by omega
  have HBe : Hid _ := fun W a1 a2 a3 => bend_sess X D.n D.t (D.n / 2) D.q D.b (layOf D.n D.net j) s.cl s.sv H cap gb cb gc cc gv cv (.slice (some ⟨gk, 0, none⟩) D.n ck) (.slice (some ⟨H2, 0, none⟩) D.L cap2) (.slice (some ⟨HN, j * 4, none⟩) (D.N - j) capN) ((3 : Nat) : Int) v0 v1 v2 d W hd O.nt O.tq (((layB_iff _ _ _).1 (O.lay j hj)).2.2.2.1) hs.lc hs.ls hs.bc hs.bs a1 a2 a3
  obtain ⟨W, hW⟩ : ∃ W, W = w.alloc (.cells #[.bool (byteL (layOf D.n D.net j) 1 == 1), .int .i64 (byteL (layOf D.n D.net j) 2 : Nat), .slice (some ⟨H, 0, none⟩) (D.n / 2) cap, .slice (some ⟨gb, 0, none⟩) D.n cb] 80) := ⟨_, rfl⟩
  have huW : Up w W := by rw [hW]; exact (Up.refl _).alloc _
  have h1W := h1.up huW
  have H1W : Hid _ := h1W
  have K3 : Hid _ := h3.1
  have d6 := h1W.c6
  have d7 := h1W.c7
  rw [hM] at d6
  have l0 : W.cell? ⟨w.heap.size, 0, none⟩ = some (.bool (byteL (layOf D.n D.net j) 1 == 1)) := by rw [hW]; simp [go_sem]
  have l1 : W.cell? ⟨w.heap.size, 1, none⟩ = some (.int .i64 (byteL (layOf D.n D.net j) 2 : Nat)) := by rw [hW]; simp [go_sem]
  have l2 : W.cell? ⟨w.heap.size, 2, none⟩ = some (.slice (some ⟨H, 0, none⟩) (D.n / 2) cap) := by rw [hW]; simp [go_sem]
  have l3 : W.cell? ⟨w.heap.size, 3, none⟩ = some (.slice (some ⟨gb, 0, none⟩) D.n cb) := by rw [hW]; simp [go_sem]
  clear h3 h9 h1 h1W
  subst hW
  go_enter Tryz.func29, Tryz.ntmps29
  go_wp2_with fail
  refine Calls.mono (HBe.out _ H1W.out (h7.up huW) (h8.up huW)) ?_
  rintro e w1 ⟨g1, c1, g2, c2, hc1, hc2, rfl, hS, i1, i2, m⟩
  have HS : Hid _ := hS
  have HC2 : Hid _ := hc2
  clear c6 c7 d6 d7 k0 k1 k2 k3 l0 l1 l2 l3 hc1 hc2
  have d6 := hS.c6
  rw [hM] at d6
  have dz : ∀ o, w1.frozen? ⟨X, o, none⟩ = false := hS.fz
  have q1 : (1 : Int) ≤ ((M + 1 : Nat) : Int) := by omega
  have q2 : ((M + 1 : Nat) : Int) ≤ (capN : Int) := by omega
  have eN : D.N - (j + 1) = M := by omega
  have HFin : Hid (∀ o' c', M ≤ c' → (j + 1 < D.N → o' = (j + 1) * 4) → SessAt (w1.setCell ⟨X, 6, none⟩ (.slice (some ⟨HN, o', none⟩) M c')) X D (j + 1) 0 (s.bent D j d.data.toList) ∧ Mut (fun k => k = X) w (w1.setCell ⟨X, 6, none⟩ (.slice (some ⟨HN, o', none⟩) M c'))) := fun o' c' hc ho => by
    have HS2 := HS.out.rest (.slice (some ⟨HN, o', none⟩) M c')
    have m2 := m.setX 6 (.slice (some ⟨HN, o', none⟩) M c')
    have m3 := (Mut.refl (fun k => k = X) w1).setX 6 (.slice (some ⟨HN, o', none⟩) M c')
    refine ⟨⟨gk, ck, H2, cap2, gs2, caps2, HN, o', c', g1, c1, g2, c2, _, _, _, by rw [eN]; exact HS2, HC2.out, ⟨by rw [eN]; exact hc, ho⟩, (h4.up huW).sess m2 H1W.out HS2, (h5.up huW).sess O.L1 m2 H1W.out HS2, (h6.up huW).sess (by omega) (half_pos O.nt) m2 H1W.out HS2, i1.sess m3 HS.out HS2, i2.sess m3 HS.out HS2, fun hr => by omega⟩, huW.mutX.trans m2⟩
  clear hS
  go_wp2_with fail
  all_goals
    go_ret2
    refine ⟨rfl, HFin.out _ _ (by omega) (fun c => by omega)⟩

set_option maxHeartbeats 1000000 in
theorem Shares_calls (X : Nat) (D : Dat) (j r : Nat) (s : St) (w : World) (O : D.Ok) (hs : s.Ok D r) (h : SessAt w X D j r s) :
    Calls Tryz.prog 54 #[.pointer (some ⟨X, 0, none⟩)] w fun e w' => e = .returned (.tuple #[.string ⟨(textsL 2 s.cl).toArray⟩, .string ⟨(textsL 2 s.sv).toArray⟩]) ∧ Up w w' := by
  obtain ⟨gk, ck, H2, cap2, gs2, caps2, HN, o, capN, gc, cc, gv, cv, v0, v1, v2, h1, h2, h3, h4, h5, h6, h7, h8, h9⟩ := h
  have ht2 := O.nt.ht
  have hhf := O.nt.half
  have HW1 : Hid (∀ W, IsI W gc s.cl → Calls Tryz.prog 72 #[.slice (some ⟨gc, 0, none⟩) D.n cc] W fun e w' => e = .returned (.string ⟨(textsL 2 s.cl).toArray⟩) ∧ Up W w') := fun W hi => by
    have := writeValues_calls s.cl gc cc W (by rw [hs.lc]; omega) (fun i hi => by rw [hs.lc] at hi; have := hs.bc i hi; omega) hi
    rw [hs.lc] at this
    exact this
  have HW2 : Hid (∀ W, IsI W gv s.sv → Calls Tryz.prog 72 #[.slice (some ⟨gv, 0, none⟩) D.n cv] W fun e w' => e = .returned (.string ⟨(textsL 2 s.sv).toArray⟩) ∧ Up W w') := fun W hi => by
    have := writeValues_calls s.sv gv cv W (by rw [hs.ls]; omega) (fun i hi => by rw [hs.ls] at hi; have := hs.bs i hi; omega) hi
    rw [hs.ls] at this
    exact this
  have c8 := h1.c8
  have H1 : Hid _ := h1
  clear h1 h2 h3 h9
  go_enter Tryz.func54, Tryz.ntmps54
  go_wp2_with fail
  refine Calls.mono (HW1.out _ h7) ?_
  rintro e w1 ⟨rfl, hu1⟩
  have c9 := (H1.out.up hu1).c9
  clear c8
  go_wp2_with fail
  refine Calls.mono (HW2.out _ (h8.up hu1)) ?_
  rintro e w2 ⟨rfl, hu2⟩
  clear c9
  go_wp2_with fail
  go_ret2
  exact ⟨rfl, hu1.trans hu2⟩

set_option maxHeartbeats 1000000 in
theorem Output_not (X : Nat) (D : Dat) (j r : Nat) (s : St) (w : World) (hj : j < D.N) (h : SessAt w X D j r s) :
    Calls Tryz.prog 28 #[.pointer (some ⟨X, 0, none⟩)] w fun e w' => e = .returned (.tuple #[.string ⟨#[]⟩, .int .i64 5]) ∧ w' = w := by
  obtain ⟨gk, ck, H2, cap2, gs2, caps2, HN, o, capN, gc, cc, gv, cv, v0, v1, v2, h1, _⟩ := h
  obtain ⟨M, hM⟩ : ∃ M, D.N - j = M + 1 := ⟨D.N - j - 1, by omega⟩
  have c6 := h1.c6
  rw [hM] at c6
  have hpos : (0 : Int) < ((M + 1 : Nat) : Int) := by omega
  clear h1
  go_enter Tryz.func28, Tryz.ntmps28
  go_wp2_with fail
  go_ret2
  exact ⟨rfl, rfl⟩

set_option maxHeartbeats 2000000 in
theorem Output_yes (X : Nat) (D : Dat) (j r : Nat) (s : St) (w : World) (O : D.Ok) (hs : s.Ok D r) (hj : D.N ≤ j) (h : SessAt w X D j r s) :
    Calls Tryz.prog 28 #[.pointer (some ⟨X, 0, none⟩)] w fun e w' => e = .returned (.tuple #[.string ⟨(textsL 2 (plusI D.n s.cl s.sv D.t)).toArray⟩, .int .i64 0]) ∧ Up w w' := by
  obtain ⟨gk, ck, H2, cap2, gs2, caps2, HN, o, capN, gc, cc, gv, cv, v0, v1, v2, h1, h2, h3, h4, h5, h6, h7, h8, h9⟩ := h
  have ht := O.nt.t3
  have ht2 := O.nt.ht
  have hhf := O.nt.half
  have HAd : Hid (∀ W, IsI W gc s.cl → IsI W gv s.sv → Calls Tryz.prog 77 #[.slice (some ⟨gc, 0, none⟩) D.n cc, .slice (some ⟨gv, 0, none⟩) D.n cv, .int .i64 D.t] W fun e w' => ∃ g' c', e = .returned (.slice (some ⟨g', 0, none⟩) D.n c') ∧ IsI w' g' (plusI D.n s.cl s.sv D.t) ∧ Up W w') := fun W h1 h2 => by
    refine (ringAdd_calls D.n s.cl s.sv gc gv cc cv D.t W (by omega) hs.lc hs.ls (by omega) (by omega) (small_bnd D.n D.t s.cl _ (by omega) (by omega) hs.lc hs.bc) (small_bnd D.n D.t s.sv _ (by omega) (by omega) hs.ls hs.bs) h1 h2).mono ?_
    rintro e w' ⟨v, rfl, ho, hu⟩
    obtain ⟨g', c', rfl, _, i⟩ := ho.is (ne_nil_of_length (plusI_length _ _ _ _) (by omega))
    rw [plusI_length]
    exact ⟨g', c', rfl, i, hu⟩
  have HPb : Hid _ := plusI_lt D.n s.cl s.sv (D.t : Int) (by omega)
  have HPl : Hid _ := plusI_length D.n s.cl s.sv (D.t : Int)
  generalize plusI D.n s.cl s.sv (D.t : Int) = PP at HAd HPb HPl
  have HWr : Hid (∀ (g c : Nat) W, IsI W g PP → Calls Tryz.prog 72 #[.slice (some ⟨g, 0, none⟩) D.n c] W fun e w' => e = .returned (.string ⟨(textsL 2 PP).toArray⟩) ∧ Up W w') := fun g c W hi => by
    have := writeValues_calls PP g c W (by rw [HPl.out]; omega) (fun i hi => by rw [HPl.out] at hi; have := HPb.out i hi; omega) hi
    rw [HPl.out] at this
    exact this
  have c6 := h1.c6
  rw [show D.N - j = 0 by omega] at c6
  have c1 := h1.c1
  have c8 := h1.c8
  have c9 := h1.c9
  clear h1 h2 h3 h9 h4 h5 h6
  go_enter Tryz.func28, Tryz.ntmps28
  go_wp2_with fail
  go_region_held3 (fun w' => w'.cell? ⟨X, 1, none⟩ = some (.int .i64 (D.t : Int)) ∧ w'.cell? ⟨X, 8, none⟩ = some (.slice (some ⟨gc, 0, none⟩) D.n cc) ∧ w'.cell? ⟨X, 9, none⟩ = some (.slice (some ⟨gv, 0, none⟩) D.n cv))
    (first | go_keep | exact ⟨keepC hu1 (And.left (by assumption)), keepC hu1 (And.left (And.right (by assumption))), keepC hu1 (And.right (And.right (by assumption)))⟩)
    ((first | (go_at_call 77; refine Calls.mono (HAd.out _ (h7.up (Up.drew (Up.refl _))) (h8.up (Up.drew (Up.refl _)))) ?_; rintro e w1 ⟨g1, c1', rfl, i1, hu1⟩)))
  clear c1 c6 c8 c9
  go_wp2_with fail
  refine Calls.mono (HWr.out _ _ _ i1) ?_
  rintro e w2 ⟨rfl, hu2⟩
  go_wp2_with fail
  go_ret2
  exact ⟨rfl, (Up.trans (Up.drew (Up.refl _)) hu1).trans hu2⟩

end Go.Proofs.YtcjhgbljhpflfabGreat
