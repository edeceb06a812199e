/-
  Walks: the program's reading of a net, layer by layer.
-/
import Derived.Test.YtcjhgbljhpflfabGreatCodeNt
namespace Go.Proofs.YtcjhgbljhpflfabGreat
open Go.RowKit
set_option linter.unusedVariables false
set_option maxRecDepth 100000

set_option maxHeartbeats 8000000 in
theorem ReadNet_in (n d t : Nat) (q b : Int) (s : ByteArray) (w : World) (hs : s.size ≤ maxLen) (hn : n = 4 ∨ n = 8 ∨ n = 16) (hd : n / 2 = d) (h2 : 2 ≤ s.data.toList.length) (h78 : byteL s.data.toList 0 = 78) (h1 : 1 ≤ byteL s.data.toList 1) (h3 : byteL s.data.toList 1 ≤ 3) (hl : s.data.toList.length = 2 + byteL s.data.toList 1 * sizN n) : NetRd n d t q b s w := by
  have HYes : Hid ((∀ i, i < byteL s.data.toList 1 → layB (layOf n s.data.toList i) n t = true) → netB s.data.toList n t = true) := fun c => (netB_iff _ _ _).2 ⟨h2, h78, h1, h3, hl, c⟩
  have HNo : Hid (∀ i, i < byteL s.data.toList 1 → layB (layOf n s.data.toList i) n t = false → netB s.data.toList n t = false) := fun i hi c => by
    cases e : netB s.data.toList n t with
    | false => rfl
    | true =>
      obtain ⟨_, _, _, _, _, h5⟩ := (netB_iff _ _ _).1 e
      rw [h5 i hi] at c
      cases c
  have hs2 : (s.size : Int) ≤ 9223372036854775807 := by unfold maxLen at hs; omega
  have hz := sizN_le n hn
  have hz1 : 1 ≤ sizN n := by rcases hn with rfl | rfl | rfl <;> decide
  have HZ : Hid (∀ W, Calls Tryz.prog 124 #[.agg #[.int .i64 n, .int .i64 t, .int .i64 q, .int .i64 b]] W fun e w' => e = .returned (.int .i64 (sizN n : Nat)) ∧ Up W w') := fun W => length_calls n t q b W hn
  have hsl : s.data.toList.length = s.size := by simp
  rw [hsl] at h2 hl
  have HLe : Hid (∀ i, i < byteL s.data.toList 1 → 2 + i * sizN n + sizN n ≤ s.size) := fun i hi => by
    have := Nat.mul_le_mul_right (sizN n) (show i + 1 ≤ byteL s.data.toList 1 by omega)
    rw [Nat.succ_mul] at this
    omega
  have HRd : Hid (∀ i W, i < byteL s.data.toList 1 → Calls Tryz.prog 34 #[.agg #[.int .i64 n, .int .i64 t, .int .i64 q, .int .i64 b], .string (s.extract (2 + i * sizN n) (2 + i * sizN n + sizN n))] W fun e w' => ∃ (bb : Bool) (sh : Int) (p2 : Option Addr) (x2 y2 : Nat) (p3 : Option Addr) (x3 y3 : Nat), e = .returned (.tuple #[.agg #[.bool bb, .int .i64 sh, .slice p2 x2 y2, .slice p3 x3 y3], .bool (layB (layOf n s.data.toList i) n t)]) ∧ (layB (layOf n s.data.toList i) n t = true → LayX w' n d (layOf n s.data.toList i) (.bool bb) (.int .i64 sh) (.slice p2 x2 y2) (.slice p3 x3 y3)) ∧ Up W w') := fun i W hi => by
    have := layRead_any n d t q b (layX n s i) W (by unfold layX; simp; omega) hn hd
    rw [layX_list n s i (HLe.out i hi)] at this
    exact this
  have p0 : 0 < s.size := by omega
  have p1 : 1 < s.size := by omega
  rw [byteL_in s 0 p0] at h78
  have c78 : (((s[0]'p0).toNat : Int) != 78) = false := by rw [h78]; rfl
  have c2 : ¬ (s.size : Int) < 2 := by omega
  have eN : byteL s.data.toList 1 = (s[1]'p1).toNat := byteL_in s 1 p1
  have HN : Hid _ := eN
  rw [eN] at h1 h3 hl HYes HNo HLe HRd
  have hA : (s[1]'p1).toNat * sizN n ≤ 3 * 200 := Nat.mul_le_mul (by omega) hz
  have e1 : IntKind.i64.wrap (((s[1]'p1).toNat : Int) * (sizN n : Int)) = (((s[1]'p1).toNat * sizN n : Nat) : Int) := by rw [← Int.natCast_mul]; exact IntWalk.i64_in _ (by omega)
  have c4 : ((s.size : Int) - (2 : Int) != (((s[1]'p1).toNat * sizN n : Nat) : Int)) = false := by rw [bne_eq_false_iff_eq]; omega
  have c1 : ¬ ((s[1]'p1).toNat : Int) < 1 := by omega
  have c3 : ¬ (3 : Int) < ((s[1]'p1).toNat : Int) := by omega
  unfold NetRd
  rw [eN]
  have hb1 := (s[1]'p1).toNat_lt
  have HD1 : Hid (1 ≤ d) := show 1 ≤ d by omega
  have HDn : Hid _ := hd
  have HL : Hid _ := hl
  clear hd hn h78 eN hsl hl h2
  obtain ⟨A, hAe⟩ : ∃ A, A = (s[1]'p1).toNat * sizN n := ⟨_, rfl⟩
  rw [← hAe] at hA e1 c4
  have HA : Hid _ := hAe
  clear hAe
  generalize sizN n = Z at hz hz1 HZ HLe HRd e1 HL HA
  obtain ⟨N, hNe⟩ : ∃ N, N = (s[1]'p1).toNat := ⟨_, rfl⟩
  rw [← hNe] at h1 h3 HYes HNo HLe HRd HN HL HA e1 c1 c3 ⊢
  have eN8 : ((s[1]'p1).toNat : Int) = (N : Int) := by rw [hNe]
  have HNe : Hid _ := hNe
  clear hNe hb1
  obtain ⟨W, hW⟩ : ∃ W, W = w.alloc (.cells #[.int .i64 n, .int .i64 t, .int .i64 q, .int .i64 b] 28) := ⟨_, rfl⟩
  have huW : Up w W := by rw [hW]; exact (Up.refl _).alloc _
  have KP : Hid (W.cell? ⟨w.heap.size, 0, none⟩ = some (.int .i64 (n : Int)) ∧ W.cell? ⟨w.heap.size, 1, none⟩ = some (.int .i64 (t : Int)) ∧ W.cell? ⟨w.heap.size, 2, none⟩ = some (.int .i64 q) ∧ W.cell? ⟨w.heap.size, 3, none⟩ = some (.int .i64 b)) := by
    show _ ∧ _ ∧ _ ∧ _
    rw [hW]
    exact ⟨by simp [go_sem], by simp [go_sem], by simp [go_sem], by simp [go_sem]⟩
  obtain ⟨hS0, hS1, hS2, hS3⟩ := KP.out
  go_enter Tryz.func68, Tryz.ntmps68
  go_wp2_with fail
  rw [← hW]
  clear hW
  refine Calls.mono (HZ.out _) ?_
  rintro e w1 ⟨rfl, hu1⟩
  clear hS0 hS1 hS2 hS3
  try rw [eN8]
  go_wp2_with fail
  try clear e1
  try clear c4
  try clear c2
  try clear c78
  go_loopw [8, 9] (fun v j wr => ∃ (k i : Nat) (xs : List Value), k ≤ N ∧ Hid (k = 0 → v = .slice none 0 0) ∧ Hid (i = 2 + k * Z) ∧ j = .int .i64 (i : Int) ∧ wr.ownsRow w1.heap.size 80 4 v k xs ∧ Hid (LaysX wr n d s.data.toList xs k) ∧ Hid (∀ j, j < k → layB (layOf n s.data.toList j) n t = true) ∧ Up w1 wr) (fun _ j _ => s.size + 1 - (intOf j).toNat)
  case atStart => exact ⟨0, 2, [], Nat.zero_le _, fun _ => rfl, (by show _ = _; omega), rfl, World.ownsRow_nil _ _ _ _, fun i hi => absurd hi (Nat.not_lt_zero _), fun i hi => absurd hi (Nat.not_lt_zero _), Up.refl _⟩
  case round =>
    obtain ⟨k, i, xs, hk, HK0, HI, rfl, hown, HX, HY, hu⟩ := hrel
    by_cases hlt : k < N
    · have hLe : i + Z ≤ s.size := by rw [HI.out]; exact HLe.out k hlt
      have HRk : Hid _ := fun W => HRd.out k W hlt
      rw [← HI.out] at HRk
      have HNk : Hid _ := HNo.out k hlt
      have HYk : Hid (layB (layOf n s.data.toList k) n t = true → ∀ j, j < k + 1 → layB (layOf n s.data.toList j) n t = true) := fun c j hj => by
        by_cases e : j = k
        · rw [e]; exact c
        · exact HY.out j (by omega)
      obtain ⟨Lk, hLk⟩ : ∃ L, L = layOf n s.data.toList k := ⟨_, rfl⟩
      rw [← hLk] at HRk HNk HYk
      obtain ⟨okk, hok⟩ : ∃ c, c = layB Lk n t := ⟨_, rfl⟩
      rw [← hok] at HRk HNk HYk
      have HLk : Hid _ := hLk
      clear hLk hok
      have hnl : xs.length = k * 4 := hown.1
      have HNl : Hid _ := hnl
      clear hnl
      have e2 : IntKind.i64.wrap ((s.size : Int) - (Z : Int)) = (s.size : Int) - (Z : Int) := IntWalk.i64_in _ (by omega)
      have e3 : IntKind.i64.wrap ((i : Int) + (Z : Int)) = (i : Int) + (Z : Int) := IntWalk.i64_in _ (by omega)
      have hcond : (i : Int) ≤ (s.size : Int) - (Z : Int) := by omega
      have hi0 : (0 : Int) ≤ (i : Int) := by omega
      have hi1 : (i : Int) ≤ (i : Int) + (Z : Int) := by omega
      have hi2 : (i : Int) + (Z : Int) ≤ (s.size : Int) := by omega
      have hi3 : 0 ≤ (i : Int) + (Z : Int) := by omega
      have ej : ((i : Int) + (Z : Int)).toNat = i + Z := by omega
      obtain ⟨hS0, hS1, hS2, hS3⟩ := keepC4 (hu1.trans hu) KP.out
      have hszw : w.heap.size < wr.heap.size := World.block_lt_of_cell? wr ⟨w.heap.size, 0, none⟩ hS0
      go_wp2_with fail
      refine wp_region_noPanic ?_
      refine wp_region_held_drew (S := (fun w' => w'.cell? ⟨w.heap.size, 0, none⟩ = some (.int .i64 (n : Int)) ∧ w'.cell? ⟨w.heap.size, 1, none⟩ = some (.int .i64 (t : Int)) ∧ w'.cell? ⟨w.heap.size, 2, none⟩ = some (.int .i64 q) ∧ w'.cell? ⟨w.heap.size, 3, none⟩ = some (.int .i64 b))) (by kernel_rfl) ?_ (fun hHeld => ?_)
      · exact ⟨hS0, hS1, hS2, hS3⟩
      refine wpAnyH_take (i := 0) (oi := { dst := some 52, op := Op.load 28 (Operand.tmp 2), type := 28, pos := "net.go:24", after := #[], guard := none }) (v := ?_) rfl (by kernel_rfl) (by kernel_rfl) (by kernel_rfl) (fun _ _ _ h => h) (Or.inl ⟨by rfl, ?_⟩) (by assumption) ?_
      rotate_left
      · (intro w hSw; (try dsimp only at hSw); go_simp; try with_reducible rfl)
      try simp only [Act.put, List.setIfInBounds_toArray, List.set_cons_zero, List.set_cons_succ]
      refine wpAnyH_take (i := 1) (oi := { dst := some 53, op := Op.move (Operand.tmp 1), type := 9, pos := "net.go:24", after := #[], guard := none }) (v := ?_) rfl (by kernel_rfl) (by kernel_rfl) (by kernel_rfl) (fun _ _ _ h => h) (Or.inl ⟨by rfl, ?_⟩) (by assumption) ?_
      rotate_left
      · (intro w hSw; (try dsimp only at hSw); go_simp; try with_reducible rfl)
      try simp only [Act.put, List.setIfInBounds_toArray, List.set_cons_zero, List.set_cons_succ]
      refine wpAnyH_take (i := 2) (oi := { dst := some 54, op := Op.move (Operand.tmp 9), type := 3, pos := "net.go:24", after := #[], guard := none }) (v := ?_) rfl (by kernel_rfl) (by kernel_rfl) (by kernel_rfl) (fun _ _ _ h => h) (Or.inl ⟨by rfl, ?_⟩) (by assumption) ?_
      rotate_left
      · (intro w hSw; (try dsimp only at hSw); go_simp; try with_reducible rfl)
      try simp only [Act.put, List.setIfInBounds_toArray, List.set_cons_zero, List.set_cons_succ]
      refine wpAnyH_take (i := 3) (oi := { dst := some 55, op := Op.move (Operand.tmp 9), type := 3, pos := "net.go:24", after := #[], guard := none }) (v := ?_) rfl (by kernel_rfl) (by kernel_rfl) (by kernel_rfl) (fun _ _ _ h => h) (Or.inl ⟨by rfl, ?_⟩) (by assumption) ?_
      rotate_left
      · (intro w hSw; (try dsimp only at hSw); go_simp; try with_reducible rfl)
      try simp only [Act.put, List.setIfInBounds_toArray, List.set_cons_zero, List.set_cons_succ]
      refine wpAnyH_take (i := 4) (oi := { dst := some 56, op := Op.move (Operand.tmp 7), type := 3, pos := "net.go:24", after := #[], guard := none }) (v := ?_) rfl (by kernel_rfl) (by kernel_rfl) (by kernel_rfl) (fun _ _ _ h => h) (Or.inl ⟨by rfl, ?_⟩) (by assumption) ?_
      rotate_left
      · (intro w hSw; (try dsimp only at hSw); go_simp; try with_reducible rfl)
      try simp only [Act.put, List.setIfInBounds_toArray, List.set_cons_zero, List.set_cons_succ]
      refine wpAnyH_take (i := 5) (oi := { dst := some 57, op := Op.binOp BinOp.add 3 (Operand.tmp 55) (Operand.tmp 56) 3, type := 3, pos := "net.go:24", after := #[{ on := 3, ground := Ground.data }, { on := 4, ground := Ground.data }], guard := none }) (v := ?_) rfl (by kernel_rfl) (by kernel_rfl) (by kernel_rfl) (fun _ _ _ h => h) (Or.inl ⟨by rfl, ?_⟩) (by assumption) ?_
      rotate_left
      · (intro w hSw; (try dsimp only at hSw); go_simp; try with_reducible rfl)
      try simp only [Act.put, List.setIfInBounds_toArray, List.set_cons_zero, List.set_cons_succ]
      refine wpAnyH_take (i := 6) (oi := { dst := some 58, op := Op.slice 9 (Operand.tmp 53) (some (Operand.tmp 54)) (some (Operand.tmp 57)) none, type := 9, pos := "net.go:24", after := #[{ on := 1, ground := Ground.data }, { on := 2, ground := Ground.data }, { on := 5, ground := Ground.data }], guard := none }) (v := ?_) rfl (by kernel_rfl) (by kernel_rfl) (by kernel_rfl) (fun _ _ _ h => h) (Or.inl ⟨by rfl, ?_⟩) (by assumption) ?_
      rotate_left
      · (intro w hSw; (try dsimp only at hSw); go_simp; try with_reducible rfl)
      try simp only [Act.put, List.setIfInBounds_toArray, List.set_cons_zero, List.set_cons_succ]
      refine wpAnyH_ready (rs := [7, 11]) (by kernel_rfl) (by simp) ?_
      refine AllReadyH.cons (o := { dst := some 59, op := Op.call { callee := Callee.value (Operand.func 34), args := #[Operand.tmp 52, Operand.tmp 58], argTypes := #[28, 9] }, type := 81, pos := "net.go:24", after := #[{ on := 0, ground := Ground.data }, { on := 6, ground := Ground.data }], guard := none }) rfl (fun K hK => ?_) ?_
      · go_simp
        refine Calls.mono (HRk.out _) ?_
        rintro r w2 ⟨bb, sh, p2, x2, y2, p3, x3, y3, rfl, hLX, hu2⟩
        have HLX : Hid _ := hLX
        clear hLX
        have hu12 : Up wr w2 := Up.trans (Up.drew (Up.refl _)) hu2
        go_wp2_with fail
        refine hK.out _ _ ?_ (fun hHeld2 => ?_)
        · exact keepC4 hu2 hHeld
        clear hHeld
        have hHeld := hHeld2
        clear hHeld2
        clear hK K
        try simp only [Act.put, List.setIfInBounds_toArray, List.set_cons_zero, List.set_cons_succ]
        refine wpAnyH_take (i := 8) (oi := { dst := some 51, op := Op.move (Operand.tmp 59), type := 81, pos := "net.go:24", after := #[{ on := 7, ground := Ground.data }], guard := none }) (v := ?_) rfl (by kernel_rfl) (by kernel_rfl) (by kernel_rfl) (fun _ _ _ h => h) (Or.inl ⟨by rfl, ?_⟩) (by assumption) ?_
        rotate_left
        · (intro w hSw; (try dsimp only at hSw); go_simp; try with_reducible rfl)
        try simp only [Act.put, List.setIfInBounds_toArray, List.set_cons_zero, List.set_cons_succ]
        refine wpAnyH_take (i := 9) (oi := { dst := some 60, op := Op.extract (Operand.tmp 51) 0, type := 80, pos := "net.go:24", after := #[{ on := 8, ground := Ground.data }], guard := none }) (v := ?_) rfl (by kernel_rfl) (by kernel_rfl) (by kernel_rfl) (fun _ _ _ h => h) (Or.inl ⟨by rfl, ?_⟩) (by assumption) ?_
        rotate_left
        · (intro w hSw; (try dsimp only at hSw); go_simp; try with_reducible rfl)
        try simp only [Act.put, List.setIfInBounds_toArray, List.set_cons_zero, List.set_cons_succ]
        refine wpAnyH_take (i := 10) (oi := { dst := some 61, op := Op.extract (Operand.tmp 51) 1, type := 4, pos := "net.go:24", after := #[{ on := 8, ground := Ground.data }, { on := 12, ground := Ground.gcOnly Departure.lateStores }], guard := none }) (v := ?_) rfl (by kernel_rfl) (by kernel_rfl) (by kernel_rfl) (fun _ _ _ h => h) (Or.inl ⟨by rfl, ?_⟩) (by assumption) ?_
        rotate_left
        · (intro w hSw; (try dsimp only at hSw); go_simp; try with_reducible rfl)
        try simp only [Act.put, List.setIfInBounds_toArray, List.set_cons_zero, List.set_cons_succ]
        refine wpAnyH_ready (rs := [11]) (by kernel_rfl) (by simp) ?_
        refine AllReadyH.cons (o := { dst := some 10, op := Op.alloc 80, type := 0, pos := "net.go:24", after := #[], guard := none }) rfl (fun K hK => ?_) ?_
        · go_simp
          refine hK.out _ _ ?_ (fun hHeld2 => ?_)
          · exact keepC4 (Up.alloc (Up.refl _) _) hHeld
          clear hHeld
          have hHeld := hHeld2
          clear hHeld2
          clear hK K
          try simp only [Act.put, List.setIfInBounds_toArray, List.set_cons_zero, List.set_cons_succ]
          refine wpAnyH_ready (rs := [12]) (by kernel_rfl) (by simp) ?_
          refine AllReadyH.cons (o := { dst := none, op := Op.store 80 (Operand.tmp 10) (Operand.tmp 60), type := 0, pos := "net.go:24", after := #[{ on := 11, ground := Ground.data }, { on := 9, ground := Ground.data }, { on := 7, ground := Ground.chain }, { on := 0, ground := Ground.phase }, { on := 1, ground := Ground.phase }, { on := 2, ground := Ground.phase }, { on := 3, ground := Ground.phase }, { on := 4, ground := Ground.phase }, { on := 5, ground := Ground.phase }, { on := 6, ground := Ground.phase }, { on := 7, ground := Ground.phase }, { on := 8, ground := Ground.phase }, { on := 9, ground := Ground.phase }, { on := 10, ground := Ground.textOnly Departure.lateStores }, { on := 11, ground := Ground.phase }], guard := none }) rfl (fun K hK => ?_) ?_
          · go_simp
            refine hK.out _ _ ?_ (fun hHeld2 => ?_)
            · exact keepC4 (Up.alloc hu12 _) ⟨hS0, hS1, hS2, hS3⟩
            clear hHeld
            have hHeld := hHeld2
            clear hHeld2
            clear hK K
            try simp only [Act.put, List.setIfInBounds_toArray, List.set_cons_zero, List.set_cons_succ]
            refine wpAnyH_take (i := 13) (oi := { dst := some 11, op := Op.assign (Operand.tmp 61), type := 4, pos := "net.go:24", after := #[{ on := 10, ground := Ground.data }, { on := 12, ground := Ground.chain }, { on := 0, ground := Ground.phase }, { on := 1, ground := Ground.phase }, { on := 2, ground := Ground.phase }, { on := 3, ground := Ground.phase }, { on := 4, ground := Ground.phase }, { on := 5, ground := Ground.phase }, { on := 6, ground := Ground.phase }, { on := 7, ground := Ground.phase }, { on := 8, ground := Ground.phase }, { on := 9, ground := Ground.phase }, { on := 10, ground := Ground.phase }, { on := 11, ground := Ground.phase }, { on := 12, ground := Ground.phase }], guard := none }) (v := ?_) rfl (by kernel_rfl) (by kernel_rfl) (by kernel_rfl) (fun _ _ _ h => h) (Or.inl ⟨by rfl, ?_⟩) (by assumption) ?_
            rotate_left
            · (intro w hSw; (try dsimp only at hSw); go_simp; try with_reducible rfl)
            try simp only [Act.put, List.setIfInBounds_toArray, List.set_cons_zero, List.set_cons_succ]
            refine wpAnyH_done (by kernel_rfl) ?_ _
            refine NoPanic.normal ?_
            have hL0 : (w2.alloc (.cells #[.bool bb, .int .i64 sh, .slice p2 x2 y2, .slice p3 x3 y3] 80)).cell? ⟨w2.heap.size, 0, none⟩ = some (.bool bb) := by simp
            have hL1 : (w2.alloc (.cells #[.bool bb, .int .i64 sh, .slice p2 x2 y2, .slice p3 x3 y3] 80)).cell? ⟨w2.heap.size, 1, none⟩ = some (.int .i64 sh) := by simp
            have hL2 : (w2.alloc (.cells #[.bool bb, .int .i64 sh, .slice p2 x2 y2, .slice p3 x3 y3] 80)).cell? ⟨w2.heap.size, 2, none⟩ = some (.slice p2 x2 y2) := by simp
            have hL3 : (w2.alloc (.cells #[.bool bb, .int .i64 sh, .slice p2 x2 y2, .slice p3 x3 y3] 80)).cell? ⟨w2.heap.size, 3, none⟩ = some (.slice p3 x3 y3) := by simp
            have HLX2 : Hid (okk = true → LayX (w2.alloc (.cells #[.bool bb, .int .i64 sh, .slice p2 x2 y2, .slice p3 x3 y3] 80)) n d Lk (.bool bb) (.int .i64 sh) (.slice p2 x2 y2) (.slice p3 x3 y3)) := fun c => (HLX.out c).up ((Up.refl _).alloc _)
            have hu1W : Up wr (w2.alloc (.cells #[.bool bb, .int .i64 sh, .slice p2 x2 y2, .slice p3 x3 y3] 80)) := hu12.alloc _
            generalize (w2.alloc (.cells #[.bool bb, .int .i64 sh, .slice p2 x2 y2, .slice p3 x3 y3] 80)) = W2 at hL0 hL1 hL2 hL3 HLX2 hu1W ⊢
            generalize w2.heap.size = G at hL0 hL1 hL2 hL3 ⊢
            skip
            clear hHeld hu2 hu12 hS0 hS1 hS2 hS3 HLX
            skip
            have hown2 := row_up hown hu1W
            have huR := hu.trans hu1W
            have hszR : w1.heap.size ≤ W2.heap.size := huR.size
            clear hown hszw
            by_cases hok : okk = true
            · have HLX3 : Hid (LayX W2 n d Lk (.bool bb) (.int .i64 sh) (.slice p2 x2 y2) (.slice p3 x3 y3)) := HLX2.out hok
              have HYn : Hid _ := HYk.out hok
              subst hok
              clear HLX2 HNk HYk
              rw [HLk.out] at HLX3
              go_wp2_with (at_builtin; refine append_layer W2 _ _ _ _ rfl rfl rfl rfl rfl (.tmp 64) (.tmp 66) rfl w1.heap.size _ k xs rfl hown2 rfl (by omega) hszR ?_)
              intro v4 w4 hown4 hg4 hb4
              have HXn : Hid (LaysX w4 n d s.data.toList (xs ++ [.bool bb, .int .i64 sh, .slice p2 x2 y2, .slice p3 x3 y3]) (k + 1)) := LaysX.next (fun i hi => ((HX.out i hi).up hu1W).grown HD1.out HDn.out hown2 (HX.out.bool) HK0.out hg4) HNl.out (LayX.grown HLX3.out HD1.out HDn.out hown2 (HX.out.bool) HK0.out hg4)
              clear hL0 hL1 hL2 hL3 hown2 hg4
              go_wp2_with fail
              go_roundw
              case rel => exact ⟨k + 1, i + Z, _, by omega, (fun c => absurd c (by omega)), (by show _ = _; rw [HI.out, Nat.succ_mul]; omega), by go_num, hown4, HXn, HYn, Below.trans huR hb4⟩
              case measure => simp [intOf]; omega
            · have HNr : Hid _ := HNk.out (by simpa using hok)
              have hok2 : okk = false := by simpa using hok
              subst hok2
              clear hL0 hL1 hL2 hL3 hok
              go_wp2_with fail
              go_ret2
              exact ⟨Or.inr ⟨HNr.out, rfl⟩, (huW.trans hu1).trans huR⟩
          exact AllReadyH.nil
        exact AllReadyH.nil
      refine AllReadyH.cons (o := { dst := some 10, op := Op.alloc 80, type := 0, pos := "net.go:24", after := #[], guard := none }) rfl (fun K hK => ?_) ?_
      · go_simp
        refine hK.out _ _ ?_ (fun hHeld2 => ?_)
        · exact keepC4 (Up.drew (Up.alloc (Up.refl wr) _)) ⟨hS0, hS1, hS2, hS3⟩
        clear hHeld
        have hHeld := hHeld2
        clear hHeld2
        clear hK K
        try simp only [Act.put, List.setIfInBounds_toArray, List.set_cons_zero, List.set_cons_succ]
        refine wpAnyH_ready (rs := [7]) (by kernel_rfl) (by simp) ?_
        refine AllReadyH.cons (o := { dst := some 59, op := Op.call { callee := Callee.value (Operand.func 34), args := #[Operand.tmp 52, Operand.tmp 58], argTypes := #[28, 9] }, type := 81, pos := "net.go:24", after := #[{ on := 0, ground := Ground.data }, { on := 6, ground := Ground.data }], guard := none }) rfl (fun K hK => ?_) ?_
        · go_simp
          refine Calls.mono (HRk.out _) ?_
          rintro r w2 ⟨bb, sh, p2, x2, y2, p3, x3, y3, rfl, hLX, hu2⟩
          have HLX : Hid _ := hLX
          clear hLX
          have hu12 : Up wr w2 := Up.trans (Up.drew (Up.alloc (Up.refl _) _)) hu2
          have hg0 := keepC (p := ⟨wr.heap.size, 0, none⟩) hu2 (by simp; rfl)
          have hg1 := keepC (p := ⟨wr.heap.size, 1, none⟩) hu2 (by simp; rfl)
          have hg2 := keepC (p := ⟨wr.heap.size, 2, none⟩) hu2 (by simp; rfl)
          have hg3 := keepC (p := ⟨wr.heap.size, 3, none⟩) hu2 (by simp; rfl)
          have hzg : ∀ o, w2.frozen? ⟨wr.heap.size, o, none⟩ = false := fun o => frozen_upN hu2 (by simp; rfl) (by simp)
          go_wp2_with fail
          refine hK.out _ _ ?_ (fun hHeld2 => ?_)
          · exact keepC4 hu2 hHeld
          clear hHeld
          have hHeld := hHeld2
          clear hHeld2
          clear hK K
          try simp only [Act.put, List.setIfInBounds_toArray, List.set_cons_zero, List.set_cons_succ]
          refine wpAnyH_take (i := 8) (oi := { dst := some 51, op := Op.move (Operand.tmp 59), type := 81, pos := "net.go:24", after := #[{ on := 7, ground := Ground.data }], guard := none }) (v := ?_) rfl (by kernel_rfl) (by kernel_rfl) (by kernel_rfl) (fun _ _ _ h => h) (Or.inl ⟨by rfl, ?_⟩) (by assumption) ?_
          rotate_left
          · (intro w hSw; (try dsimp only at hSw); go_simp; try with_reducible rfl)
          try simp only [Act.put, List.setIfInBounds_toArray, List.set_cons_zero, List.set_cons_succ]
          refine wpAnyH_take (i := 9) (oi := { dst := some 60, op := Op.extract (Operand.tmp 51) 0, type := 80, pos := "net.go:24", after := #[{ on := 8, ground := Ground.data }], guard := none }) (v := ?_) rfl (by kernel_rfl) (by kernel_rfl) (by kernel_rfl) (fun _ _ _ h => h) (Or.inl ⟨by rfl, ?_⟩) (by assumption) ?_
          rotate_left
          · (intro w hSw; (try dsimp only at hSw); go_simp; try with_reducible rfl)
          try simp only [Act.put, List.setIfInBounds_toArray, List.set_cons_zero, List.set_cons_succ]
          refine wpAnyH_take (i := 10) (oi := { dst := some 61, op := Op.extract (Operand.tmp 51) 1, type := 4, pos := "net.go:24", after := #[{ on := 8, ground := Ground.data }, { on := 12, ground := Ground.gcOnly Departure.lateStores }], guard := none }) (v := ?_) rfl (by kernel_rfl) (by kernel_rfl) (by kernel_rfl) (fun _ _ _ h => h) (Or.inl ⟨by rfl, ?_⟩) (by assumption) ?_
          rotate_left
          · (intro w hSw; (try dsimp only at hSw); go_simp; try with_reducible rfl)
          try simp only [Act.put, List.setIfInBounds_toArray, List.set_cons_zero, List.set_cons_succ]
          refine wpAnyH_ready (rs := [12]) (by kernel_rfl) (by simp) ?_
          refine AllReadyH.cons (o := { dst := none, op := Op.store 80 (Operand.tmp 10) (Operand.tmp 60), type := 0, pos := "net.go:24", after := #[{ on := 11, ground := Ground.data }, { on := 9, ground := Ground.data }, { on := 7, ground := Ground.chain }, { on := 0, ground := Ground.phase }, { on := 1, ground := Ground.phase }, { on := 2, ground := Ground.phase }, { on := 3, ground := Ground.phase }, { on := 4, ground := Ground.phase }, { on := 5, ground := Ground.phase }, { on := 6, ground := Ground.phase }, { on := 7, ground := Ground.phase }, { on := 8, ground := Ground.phase }, { on := 9, ground := Ground.phase }, { on := 10, ground := Ground.textOnly Departure.lateStores }, { on := 11, ground := Ground.phase }], guard := none }) rfl (fun K hK => ?_) ?_
          · go_simp
            refine hK.out _ _ ?_ (fun hHeld2 => ?_)
            · exact ⟨(far_cell4 (by omega)).trans hHeld.1, (far_cell4 (by omega)).trans hHeld.2.1, (far_cell4 (by omega)).trans hHeld.2.2.1, (far_cell4 (by omega)).trans hHeld.2.2.2⟩
            clear hHeld
            have hHeld := hHeld2
            clear hHeld2
            clear hK K
            try simp only [Act.put, List.setIfInBounds_toArray, List.set_cons_zero, List.set_cons_succ]
            refine wpAnyH_take (i := 13) (oi := { dst := some 11, op := Op.assign (Operand.tmp 61), type := 4, pos := "net.go:24", after := #[{ on := 10, ground := Ground.data }, { on := 12, ground := Ground.chain }, { on := 0, ground := Ground.phase }, { on := 1, ground := Ground.phase }, { on := 2, ground := Ground.phase }, { on := 3, ground := Ground.phase }, { on := 4, ground := Ground.phase }, { on := 5, ground := Ground.phase }, { on := 6, ground := Ground.phase }, { on := 7, ground := Ground.phase }, { on := 8, ground := Ground.phase }, { on := 9, ground := Ground.phase }, { on := 10, ground := Ground.phase }, { on := 11, ground := Ground.phase }, { on := 12, ground := Ground.phase }], guard := none }) (v := ?_) rfl (by kernel_rfl) (by kernel_rfl) (by kernel_rfl) (fun _ _ _ h => h) (Or.inl ⟨by rfl, ?_⟩) (by assumption) ?_
            rotate_left
            · (intro w hSw; (try dsimp only at hSw); go_simp; try with_reducible rfl)
            try simp only [Act.put, List.setIfInBounds_toArray, List.set_cons_zero, List.set_cons_succ]
            refine wpAnyH_done (by kernel_rfl) ?_ _
            refine NoPanic.normal ?_
            obtain ⟨hL0, hL1, hL2, hL3⟩ := same_cell4 (x0 := .bool bb) (x1 := .int .i64 sh) (x2 := .slice p2 x2 y2) (x3 := .slice p3 x3 y3) hg0 hg1 hg2 hg3
            have HLX2 : Hid (okk = true → LayX ((((w2.setCell ⟨wr.heap.size, 0, none⟩ (.bool bb)).setCell ⟨wr.heap.size, 1, none⟩ (.int .i64 sh)).setCell ⟨wr.heap.size, 2, none⟩ (.slice p2 x2 y2)).setCell ⟨wr.heap.size, 3, none⟩ (.slice p3 x3 y3)) n d Lk (.bool bb) (.int .i64 sh) (.slice p2 x2 y2) (.slice p3 x3 y3)) := fun c => (HLX.out c).set4 HD1.out HDn.out hg0
            have hu1W : Up wr ((((w2.setCell ⟨wr.heap.size, 0, none⟩ (.bool bb)).setCell ⟨wr.heap.size, 1, none⟩ (.int .i64 sh)).setCell ⟨wr.heap.size, 2, none⟩ (.slice p2 x2 y2)).setCell ⟨wr.heap.size, 3, none⟩ (.slice p3 x3 y3)) := (((hu12.setCell (by simp) _).setCell (by simp) _).setCell (by simp) _).setCell (by simp) _
            generalize ((((w2.setCell ⟨wr.heap.size, 0, none⟩ (.bool bb)).setCell ⟨wr.heap.size, 1, none⟩ (.int .i64 sh)).setCell ⟨wr.heap.size, 2, none⟩ (.slice p2 x2 y2)).setCell ⟨wr.heap.size, 3, none⟩ (.slice p3 x3 y3)) = W2 at hL0 hL1 hL2 hL3 HLX2 hu1W ⊢
            obtain ⟨G, hG⟩ : ∃ G, G = wr.heap.size := ⟨_, rfl⟩
            rw [← hG] at hL0 hL1 hL2 hL3 ⊢
            clear hHeld hu2 hu12 hS0 hS1 hS2 hS3 HLX
            clear hg0 hg1 hg2 hg3 hzg
            clear hG
            have hown2 := row_up hown hu1W
            have huR := hu.trans hu1W
            have hszR : w1.heap.size ≤ W2.heap.size := huR.size
            clear hown hszw
            by_cases hok : okk = true
            · have HLX3 : Hid (LayX W2 n d Lk (.bool bb) (.int .i64 sh) (.slice p2 x2 y2) (.slice p3 x3 y3)) := HLX2.out hok
              have HYn : Hid _ := HYk.out hok
              subst hok
              clear HLX2 HNk HYk
              rw [HLk.out] at HLX3
              go_wp2_with (at_builtin; refine append_layer W2 _ _ _ _ rfl rfl rfl rfl rfl (.tmp 64) (.tmp 66) rfl w1.heap.size _ k xs rfl hown2 rfl (by omega) hszR ?_)
              intro v4 w4 hown4 hg4 hb4
              have HXn : Hid (LaysX w4 n d s.data.toList (xs ++ [.bool bb, .int .i64 sh, .slice p2 x2 y2, .slice p3 x3 y3]) (k + 1)) := LaysX.next (fun i hi => ((HX.out i hi).up hu1W).grown HD1.out HDn.out hown2 (HX.out.bool) HK0.out hg4) HNl.out (LayX.grown HLX3.out HD1.out HDn.out hown2 (HX.out.bool) HK0.out hg4)
              clear hL0 hL1 hL2 hL3 hown2 hg4
              go_wp2_with fail
              go_roundw
              case rel => exact ⟨k + 1, i + Z, _, by omega, (fun c => absurd c (by omega)), (by show _ = _; rw [HI.out, Nat.succ_mul]; omega), by go_num, hown4, HXn, HYn, Below.trans huR hb4⟩
              case measure => simp [intOf]; omega
            · have HNr : Hid _ := HNk.out (by simpa using hok)
              have hok2 : okk = false := by simpa using hok
              subst hok2
              clear hL0 hL1 hL2 hL3 hok
              go_wp2_with fail
              go_ret2
              exact ⟨Or.inr ⟨HNr.out, rfl⟩, (huW.trans hu1).trans huR⟩
          exact AllReadyH.nil
        exact AllReadyH.nil
      exact AllReadyH.nil
    · obtain rfl : k = N := by omega
      have HNs : Hid (netB s.data.toList n t = true) := HYes.out HY.out
      obtain ⟨H, cap, rfl, hc, _, hNet⟩ := net_of_own (by omega) hown HX.out
      have HC : Hid _ := hc
      have HNA : Hid _ := hNet
      have hi3 : i = s.size := by rw [HI.out, HL.out]
      have e2 : IntKind.i64.wrap ((s.size : Int) - (Z : Int)) = (s.size : Int) - (Z : Int) := IntWalk.i64_in _ (by omega)
      have hcond : ¬ (i : Int) ≤ (s.size : Int) - (Z : Int) := by omega
      clear hown hc hNet
      go_wp2_with fail
      go_ret2
      exact ⟨Or.inl ⟨HNs.out, H, cap, HC.out, rfl, HNA.out⟩, (huW.trans hu1).trans hu⟩

theorem ReadNet_calls (n d t : Nat) (q b : Int) (s : ByteArray) (w : World) (hs : s.size ≤ maxLen) (hn : n = 4 ∨ n = 8 ∨ n = 16) (hd : n / 2 = d) : NetRd n d t q b s w := by
  by_cases h : 2 ≤ s.data.toList.length ∧ byteL s.data.toList 0 = 78 ∧ 1 ≤ byteL s.data.toList 1 ∧ byteL s.data.toList 1 ≤ 3 ∧ s.data.toList.length = 2 + byteL s.data.toList 1 * sizN n
  · exact ReadNet_in n d t q b s w hs hn hd h.1 h.2.1 h.2.2.1 h.2.2.2.1 h.2.2.2.2
  · exact ReadNet_out n d t q b s w hs hn h

end Go.Proofs.YtcjhgbljhpflfabGreat
