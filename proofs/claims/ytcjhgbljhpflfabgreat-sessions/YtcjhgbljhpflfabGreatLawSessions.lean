/-
  The statement Sessions.
-/
import Derived.Test.YtcjhgbljhpflfabGreatLawSa
namespace Go.Proofs.YtcjhgbljhpflfabGreat
open Go.RowKit
set_option linter.unusedVariables false
set_option maxRecDepth 100000

set_option maxHeartbeats 8000000 in
theorem Sessions_calls (st : Option Addr) (k c : Nat) (w : World) (hk : k ≤ 1099511627776)
    (hst : ∀ i, i < k → ∃ (sb so : Nat) (kd ss n t q b : Int) (net key turn input d : ByteArray), st = some ⟨sb, so, none⟩ ∧ (-9223372036854775808 ≤ ss ∧ ss ≤ 9223372036854775807) ∧ net.size ≤ maxLen ∧ key.size ≤ maxLen ∧ turn.size ≤ maxLen ∧ input.size ≤ maxLen ∧ d.size ≤ maxLen ∧ w.cell? ⟨sb, so + i * 11, none⟩ = some (.int .i64 kd) ∧ w.cell? ⟨sb, so + i * 11 + 1, none⟩ = some (.int .i64 ss) ∧ w.cell? ⟨sb, so + i * 11 + 2, none⟩ = some (.int .i64 n) ∧ w.cell? ⟨sb, so + i * 11 + 3, none⟩ = some (.int .i64 t) ∧ w.cell? ⟨sb, so + i * 11 + 4, none⟩ = some (.int .i64 q) ∧ w.cell? ⟨sb, so + i * 11 + 5, none⟩ = some (.int .i64 b) ∧ w.cell? ⟨sb, so + i * 11 + 6, none⟩ = some (.string net) ∧ w.cell? ⟨sb, so + i * 11 + 7, none⟩ = some (.string key) ∧ w.cell? ⟨sb, so + i * 11 + 8, none⟩ = some (.string turn) ∧ w.cell? ⟨sb, so + i * 11 + 9, none⟩ = some (.string input) ∧ w.cell? ⟨sb, so + i * 11 + 10, none⟩ = some (.string d)) :
    Calls Tryz.prog 4 #[.slice st k c] w fun e w' => e = .returned (.bool true) ∧ Up w w' := by
  have HST : Hid _ := hst
  clear hst
  go_enter Tryz.func4, Tryz.ntmps4
  go_wp2_with fail
  refine (begins_calls _).mono ?_
  rintro e w1 ⟨rfl, hu1⟩
  obtain ⟨B, hB⟩ : ∃ B, B = w.heap.size := ⟨_, rfl⟩
  have HB : Hid _ := hB
  have hw1 : Below B w w1 := by rw [hB]; exact hu1
  have hB1 : B ≤ w1.heap.size := by rw [hB]; exact hu1.size
  clear hB hu1
  go_wp2_with fail
  go_loopw [4, 5] (fun v sj wr => ∃ (i m : Nat) (f : Nat → Pr), i ≤ k ∧ m ≤ i ∧ sj = .int .i64 (i : Int) ∧ Hid (All wr B v m f) ∧ B ≤ wr.heap.size ∧ Below B w wr) (fun _ sj _ => k - (intOf sj).toNat)
  case atStart => exact ⟨0, 0, fun _ => ⟨0, 0, ⟨0, 0, 0, 0, 0, [], [], []⟩, [], ⟨#[]⟩, ⟨#[]⟩, ⟨#[]⟩, ⟨#[]⟩, .slice none 0 0⟩, Nat.zero_le _, Nat.zero_le _, rfl, ⟨World.ownsRow_nil _ _ _ _, fun i hi => absurd hi (Nat.not_lt_zero _), fun i j hi => absurd hi (Nat.not_lt_zero _), fun _ => rfl⟩, hB1, hw1⟩
  case round =>
    clear hw1 hB1
    obtain ⟨i, m, f, hi, hm, rfl, HA, hBr, hu⟩ := hrel
    by_cases hlt : i < k
    · obtain ⟨sb, so, kd, ss, n, t, q, b, net, key, turn, input, d, rfl, hss, z1, z2, z3, z4, z5, s0, s1, s2, s3, s4, s5, s6, s7, s8, s9, s10⟩ := HST.out i hlt
      have c0 := (hu.cell (p := ⟨sb, so + i * 11, none⟩) (by have h : sb < w.heap.size := World.block_lt_of_cell? w ⟨sb, so + i * 11, none⟩ s0; have := HB.out; show sb < B; omega)).trans s0
      have c1 := (hu.cell (p := ⟨sb, so + i * 11 + 1, none⟩) (by have h : sb < w.heap.size := World.block_lt_of_cell? w ⟨sb, so + i * 11 + 1, none⟩ s1; have := HB.out; show sb < B; omega)).trans s1
      have c2 := (hu.cell (p := ⟨sb, so + i * 11 + 2, none⟩) (by have h : sb < w.heap.size := World.block_lt_of_cell? w ⟨sb, so + i * 11 + 2, none⟩ s2; have := HB.out; show sb < B; omega)).trans s2
      have c3 := (hu.cell (p := ⟨sb, so + i * 11 + 3, none⟩) (by have h : sb < w.heap.size := World.block_lt_of_cell? w ⟨sb, so + i * 11 + 3, none⟩ s3; have := HB.out; show sb < B; omega)).trans s3
      have c4 := (hu.cell (p := ⟨sb, so + i * 11 + 4, none⟩) (by have h : sb < w.heap.size := World.block_lt_of_cell? w ⟨sb, so + i * 11 + 4, none⟩ s4; have := HB.out; show sb < B; omega)).trans s4
      have c5 := (hu.cell (p := ⟨sb, so + i * 11 + 5, none⟩) (by have h : sb < w.heap.size := World.block_lt_of_cell? w ⟨sb, so + i * 11 + 5, none⟩ s5; have := HB.out; show sb < B; omega)).trans s5
      have c6 := (hu.cell (p := ⟨sb, so + i * 11 + 6, none⟩) (by have h : sb < w.heap.size := World.block_lt_of_cell? w ⟨sb, so + i * 11 + 6, none⟩ s6; have := HB.out; show sb < B; omega)).trans s6
      have c7 := (hu.cell (p := ⟨sb, so + i * 11 + 7, none⟩) (by have h : sb < w.heap.size := World.block_lt_of_cell? w ⟨sb, so + i * 11 + 7, none⟩ s7; have := HB.out; show sb < B; omega)).trans s7
      have c8 := (hu.cell (p := ⟨sb, so + i * 11 + 8, none⟩) (by have h : sb < w.heap.size := World.block_lt_of_cell? w ⟨sb, so + i * 11 + 8, none⟩ s8; have := HB.out; show sb < B; omega)).trans s8
      have c9 := (hu.cell (p := ⟨sb, so + i * 11 + 9, none⟩) (by have h : sb < w.heap.size := World.block_lt_of_cell? w ⟨sb, so + i * 11 + 9, none⟩ s9; have := HB.out; show sb < B; omega)).trans s9
      have c10 := (hu.cell (p := ⟨sb, so + i * 11 + 10, none⟩) (by have h : sb < w.heap.size := World.block_lt_of_cell? w ⟨sb, so + i * 11 + 10, none⟩ s10; have := HB.out; show sb < B; omega)).trans s10
      clear s0 s1 s2 s3 s4 s5 s6 s7 s8 s9 s10
      have hi0 : (0 : Int) ≤ (i : Int) := by omega
      have hi1 : (i : Int) < (k : Int) := by omega
      obtain ⟨W, hW⟩ : ∃ W, W = wr.alloc (.cells #[.int .i64 kd, .int .i64 ss, .int .i64 n, .int .i64 t, .int .i64 q, .int .i64 b, .string net, .string key, .string turn, .string input, .string d] 37) := ⟨_, rfl⟩
      have huW : Up wr W := by rw [hW]; exact (Up.refl _).alloc _
      have hsW : W.heap.size = wr.heap.size + 1 := by rw [hW]; simp
      have o0 : W.cell? ⟨wr.heap.size, 0, none⟩ = some (.int .i64 kd) := by rw [hW]; simp [go_sem]
      have o1 : W.cell? ⟨wr.heap.size, 1, none⟩ = some (.int .i64 ss) := by rw [hW]; simp [go_sem]
      have o2 : W.cell? ⟨wr.heap.size, 2, none⟩ = some (.int .i64 n) := by rw [hW]; simp [go_sem]
      have o3 : W.cell? ⟨wr.heap.size, 3, none⟩ = some (.int .i64 t) := by rw [hW]; simp [go_sem]
      have o4 : W.cell? ⟨wr.heap.size, 4, none⟩ = some (.int .i64 q) := by rw [hW]; simp [go_sem]
      have o5 : W.cell? ⟨wr.heap.size, 5, none⟩ = some (.int .i64 b) := by rw [hW]; simp [go_sem]
      have o6 : W.cell? ⟨wr.heap.size, 6, none⟩ = some (.string net) := by rw [hW]; simp [go_sem]
      have o7 : W.cell? ⟨wr.heap.size, 7, none⟩ = some (.string key) := by rw [hW]; simp [go_sem]
      have o8 : W.cell? ⟨wr.heap.size, 8, none⟩ = some (.string turn) := by rw [hW]; simp [go_sem]
      have o9 : W.cell? ⟨wr.heap.size, 9, none⟩ = some (.string input) := by rw [hW]; simp [go_sem]
      have o10 : W.cell? ⟨wr.heap.size, 10, none⟩ = some (.string d) := by rw [hW]; simp [go_sem]
      have KO : Hid (W.cell? ⟨wr.heap.size, 0, none⟩ = some (.int .i64 kd) ∧ W.cell? ⟨wr.heap.size, 1, none⟩ = some (.int .i64 ss) ∧ W.cell? ⟨wr.heap.size, 2, none⟩ = some (.int .i64 n) ∧ W.cell? ⟨wr.heap.size, 3, none⟩ = some (.int .i64 t) ∧ W.cell? ⟨wr.heap.size, 4, none⟩ = some (.int .i64 q) ∧ W.cell? ⟨wr.heap.size, 5, none⟩ = some (.int .i64 b) ∧ W.cell? ⟨wr.heap.size, 6, none⟩ = some (.string net) ∧ W.cell? ⟨wr.heap.size, 7, none⟩ = some (.string key) ∧ W.cell? ⟨wr.heap.size, 8, none⟩ = some (.string turn) ∧ W.cell? ⟨wr.heap.size, 9, none⟩ = some (.string input) ∧ W.cell? ⟨wr.heap.size, 10, none⟩ = some (.string d)) := ⟨o0, o1, o2, o3, o4, o5, o6, o7, o8, o9, o10⟩
      have HAW : Hid (All W B u4 m f) := HA.out.up huW
      have hBW : B ≤ W.heap.size := by omega
      have hbW : Below B w W := Below.trans hu (huW.mono hBr)
      by_cases h1 : kd = 1
      · subst h1
        obtain ⟨W2, hW2⟩ : ∃ W', W' = W.alloc (.cells #[.pointer none, .pointer none] 41) := ⟨_, rfl⟩
        have huP : Up W W2 := by rw [hW2]; exact (Up.refl _).alloc _
        have hb0 : W2.cell? ⟨W.heap.size, 0, none⟩ = some (.pointer none) := by rw [hW2]; simp [go_sem]
        have hb1 : W2.cell? ⟨W.heap.size, 1, none⟩ = some (.pointer none) := by rw [hW2]; simp [go_sem]
        have hbz : ∀ o, W2.frozen? ⟨W.heap.size, o, none⟩ = false := fun o => by rw [hW2]; simp [go_sem]
        obtain ⟨PB, hPB⟩ : ∃ b, b = W.heap.size := ⟨_, rfl⟩
        have HPB : Hid _ := hPB
        rw [← hPB] at hb0 hb1 hbz
        have HB0 : Hid _ := hb0
        have HB1 : Hid _ := hb1
        have HBZ : Hid _ := hbz
        have hB2 : B ≤ W2.heap.size := Nat.le_trans hBW huP.size
        have HA2 : Hid (All W2 B u4 m f) := HAW.out.up huP
        have hPn : u4.ownBlock ≠ some PB := fun e => by
          have := (World.ownsRow.lt HAW.out.own PB e).2
          omega
        have HPn : Hid _ := hPn
        have HMa : Hid _ := made_calls W2 B 1 ss n t q b net key turn input d hB2 z1 z2 z3 z4
        have hbW2 : Below B w W2 := Below.trans hbW (huP.mono hBW)
        clear hPn hbz hb0 hb1
        have q0 := keepC huP o0
        have q1 := keepC huP o1
        have q2 := keepC huP o2
        have q3 := keepC huP o3
        have q4 := keepC huP o4
        have q5 := keepC huP o5
        have q6 := keepC huP o6
        have q7 := keepC huP o7
        have q8 := keepC huP o8
        have q9 := keepC huP o9
        have q10 := keepC huP o10
        clear o0 o1 o2 o3 o4 o5 o6 o7 o8 o9 o10
        go_wp2_with fail
        rw [← hW, ← hW2]
        refine Calls.mono HMa.out ?_
        rintro r w2 hmr
        have hPB2 : PB = wr.heap.size + 1 := by omega
        clear hW hW2 KO HAW HA HMa huW huP hbW hPB
        clear q0 c0 q1 c1 q2 c2 q3 c3 q4 c4 q5 c5 q6 c6 q7 c7 q8 c8 q9 c9 q10 c10
        subst hPB2
        clear HPB
        rcases hmr with ⟨rfl, hu2⟩ | ⟨p, rfl, hp, hpX, hpR, hpv, hu2⟩
        · have a0 := keepC hu2 HB0.out
          have a1 := keepC hu2 HB1.out
          have az : ∀ o, w2.frozen? ⟨wr.heap.size + 1, o, none⟩ = false := fun o => frozen_upN hu2 HB0.out (HBZ.out o)
          have HF : Hid (All ((w2.setCell ⟨wr.heap.size + 1, 0, none⟩ (.pointer none)).setCell ⟨wr.heap.size + 1, 1, none⟩ (.pointer none)) B u4 m f) := (HA2.out.up hu2).ptr (((Mut.refl (fun k => k = wr.heap.size + 1) w2).setX 0 _).setX 1 _) a0 HPn.out
          have hb2 : Below B w w2 := Below.trans hbW2 (hu2.mono hB2)
          have hf2 : Below B w ((w2.setCell ⟨wr.heap.size + 1, 0, none⟩ (.pointer none)).setCell ⟨wr.heap.size + 1, 1, none⟩ (.pointer none)) := (hb2.setCell (by dsimp only; omega) _).setCell (by dsimp only; omega) _
          have hs2 : B ≤ ((w2.setCell ⟨wr.heap.size + 1, 0, none⟩ (.pointer none)).setCell ⟨wr.heap.size + 1, 1, none⟩ (.pointer none)).heap.size := by have := hb2.size; have := hu2.size; simp; omega
          go_wp2_with fail
          go_roundw
          case rel => exact ⟨i + 1, m, f, by omega, by omega, by go_num, HF, hs2, hf2⟩
          case measure => simp [intOf]; omega
        · have HP : Hid _ := hp
          have HPx : Hid _ := hpX
          have HPr : Hid _ := hpR
          have HPv : Hid _ := hpv
          clear hp hpX hpR hpv
          have a0 := keepC hu2 HB0.out
          have a1 := keepC hu2 HB1.out
          have az : ∀ o, w2.frozen? ⟨wr.heap.size + 1, o, none⟩ = false := fun o => frozen_upN hu2 HB0.out (HBZ.out o)
          have mu := ((Mut.refl (fun k => k = wr.heap.size + 1) w2).setX 0 (.pointer (some ⟨p.X, 0, none⟩))).setX 1 (.pointer (some ⟨p.R, 0, none⟩))
          have HF : Hid (All ((w2.setCell ⟨wr.heap.size + 1, 0, none⟩ (.pointer (some ⟨p.X, 0, none⟩))).setCell ⟨wr.heap.size + 1, 1, none⟩ (.pointer (some ⟨p.R, 0, none⟩))) B u4 m f) := (HA2.out.up hu2).ptr mu a0 HPn.out
          have HP5 : Hid (PairAt ((w2.setCell ⟨wr.heap.size + 1, 0, none⟩ (.pointer (some ⟨p.X, 0, none⟩))).setCell ⟨wr.heap.size + 1, 1, none⟩ (.pointer (some ⟨p.R, 0, none⟩))) B p) := HP.out.ptr mu a0
          have hb2 : Below B w w2 := Below.trans hbW2 (hu2.mono hB2)
          have hf2 : Below B w ((w2.setCell ⟨wr.heap.size + 1, 0, none⟩ (.pointer (some ⟨p.X, 0, none⟩))).setCell ⟨wr.heap.size + 1, 1, none⟩ (.pointer (some ⟨p.R, 0, none⟩))) := (hb2.setCell (by dsimp only; omega) _).setCell (by dsimp only; omega) _
          have hs2 : B ≤ ((w2.setCell ⟨wr.heap.size + 1, 0, none⟩ (.pointer (some ⟨p.X, 0, none⟩))).setCell ⟨wr.heap.size + 1, 1, none⟩ (.pointer (some ⟨p.R, 0, none⟩))).heap.size := by have := hu2.size; simp at this ⊢; omega
          have hown5 := HF.out.own
          go_wp2_with (at_builtin; refine append_lpair _ _ _ rfl rfl rfl (.tmp 36) (.tmp 38) rfl B _ m _ rfl hown5 _ rfl (by simp) (by omega) hs2 ?_)
          intro v6 w6 ho6 hg6 hb6
          have HF6 : Hid (All w6 B v6 (m + 1) (fun j => if j = m then p else f j)) := All.more HF.out HP5.out HPv.out HA2.out HPx.out HPr.out ho6 hg6
          have hf6 : Below B w w6 := Below.trans hf2 hb6
          have hs6 : B ≤ w6.heap.size := Nat.le_trans hs2 hb6.size
          clear hown5 ho6 hg6 hb6
          go_wp2_with fail
          go_roundw
          case rel => exact ⟨i + 1, m + 1, _, by omega, by omega, by go_num, HF6, hs6, hf6⟩
          case measure => simp [intOf]; omega
      · have hk1 : (kd == 1) = false := beq_eq_false_iff_ne.2 h1
        rcases Nat.eq_zero_or_pos m with hm0 | hm0
        · subst hm0
          have hv : u4 = .slice none 0 0 := HAW.out.nil rfl
          subst hv
          subst hW
          go_wp2_with fail
          go_roundw
          case rel => exact ⟨i + 1, 0, f, by omega, by omega, by go_num, HAW, by simpa using hBW, hbW⟩
          case measure => simp [intOf]; omega
        · obtain ⟨g, cp, hv, hgB, hgl, hcell⟩ := HAW.out.head hm0
          subst hv
          have HC : Hid _ := hcell
          clear hcell
          have hmp : (0 : Int) < (m : Int) := by omega
          go_wp2_with fail
          rw [← hW]
          clear hW
          refine wp_region_noPanic ?_
          refine wp_region_held_drew (S := (fun w' => w'.cell? ⟨wr.heap.size, 0, none⟩ = some (.int .i64 kd) ∧ w'.cell? ⟨wr.heap.size, 1, none⟩ = some (.int .i64 ss) ∧ w'.cell? ⟨wr.heap.size, 2, none⟩ = some (.int .i64 n) ∧ w'.cell? ⟨wr.heap.size, 3, none⟩ = some (.int .i64 t) ∧ w'.cell? ⟨wr.heap.size, 4, none⟩ = some (.int .i64 q) ∧ w'.cell? ⟨wr.heap.size, 5, none⟩ = some (.int .i64 b) ∧ w'.cell? ⟨wr.heap.size, 6, none⟩ = some (.string net) ∧ w'.cell? ⟨wr.heap.size, 7, none⟩ = some (.string key) ∧ w'.cell? ⟨wr.heap.size, 8, none⟩ = some (.string turn) ∧ w'.cell? ⟨wr.heap.size, 9, none⟩ = some (.string input) ∧ w'.cell? ⟨wr.heap.size, 10, none⟩ = some (.string d))) (by kernel_rfl) ?_ (fun hHeld => ?_)
          · exact ⟨o0, o1, o2, o3, o4, o5, o6, o7, o8, o9, o10⟩
          refine wpAnyH_take (i := 0) (oi := { dst := some 43, op := Op.move (Operand.tmp 4), type := 35, pos := "law.go:246", after := #[], guard := none }) (v := ?_) rfl (by kernel_rfl) (by kernel_rfl) (by kernel_rfl) (fun _ _ _ h => h) (Or.inl ⟨by rfl, ?_⟩) (by assumption) ?_
          rotate_left
          · (intro w hSw; (try dsimp only at hSw); go_simp; try with_reducible rfl)
          try simp only [Act.put, List.setIfInBounds_toArray, List.set_cons_zero, List.set_cons_succ]
          refine wpAnyH_take (i := 1) (oi := { dst := some 44, op := Op.fieldAddr 37 (Operand.tmp 6) 1, type := 0, pos := "law.go:246", after := #[], guard := none }) (v := ?_) rfl (by kernel_rfl) (by kernel_rfl) (by kernel_rfl) (fun _ _ _ h => h) (Or.inl ⟨by rfl, ?_⟩) (by assumption) ?_
          rotate_left
          · (intro w hSw; (try dsimp only at hSw); go_simp; try with_reducible rfl)
          try simp only [Act.put, List.setIfInBounds_toArray, List.set_cons_zero, List.set_cons_succ]
          refine wpAnyH_take (i := 2) (oi := { dst := some 45, op := Op.load 3 (Operand.tmp 44), type := 3, pos := "law.go:246", after := #[{ on := 1, ground := Ground.data }], guard := none }) (v := ?_) rfl (by kernel_rfl) (by kernel_rfl) (by kernel_rfl) (fun _ _ _ h => h) (Or.inl ⟨by rfl, ?_⟩) (by assumption) ?_
          rotate_left
          · (intro w hSw; (try dsimp only at hSw); go_simp; try with_reducible rfl)
          try simp only [Act.put, List.setIfInBounds_toArray, List.set_cons_zero, List.set_cons_succ]
          refine wpAnyH_take (i := 3) (oi := { dst := some 46, op := Op.move (Operand.tmp 4), type := 35, pos := "law.go:246", after := #[], guard := none }) (v := ?_) rfl (by kernel_rfl) (by kernel_rfl) (by kernel_rfl) (fun _ _ _ h => h) (Or.inl ⟨by rfl, ?_⟩) (by assumption) ?_
          rotate_left
          · (intro w hSw; (try dsimp only at hSw); go_simp; try with_reducible rfl)
          try simp only [Act.put, List.setIfInBounds_toArray, List.set_cons_zero, List.set_cons_succ]
          refine wpAnyH_take (i := 4) (oi := { dst := some 47, op := Op.call { callee := Callee.builtin Builtin.len, args := #[Operand.tmp 46], argTypes := #[35] }, type := 3, pos := "law.go:246", after := #[{ on := 3, ground := Ground.data }], guard := none }) (v := ?_) rfl (by kernel_rfl) (by kernel_rfl) (by kernel_rfl) (fun _ _ _ h => h) (Or.inl ⟨by rfl, ?_⟩) (by assumption) ?_
          rotate_left
          · (intro w hSw; (try dsimp only at hSw); go_simp; try with_reducible rfl)
          try simp only [Act.put, List.setIfInBounds_toArray, List.set_cons_zero, List.set_cons_succ]
          refine wpAnyH_take (i := 8) (oi := { dst := some 51, op := Op.load 37 (Operand.tmp 6), type := 37, pos := "law.go:246", after := #[], guard := none }) (v := ?_) rfl (by kernel_rfl) (by kernel_rfl) (by kernel_rfl) (fun _ _ _ h => h) (Or.inl ⟨by rfl, ?_⟩) (by assumption) ?_
          rotate_left
          · (intro w hSw; (try dsimp only at hSw); go_simp; try with_reducible rfl)
          try simp only [Act.put, List.setIfInBounds_toArray, List.set_cons_zero, List.set_cons_succ]
          refine wpAnyH_ready (rs := [5]) (by kernel_rfl) (by simp) ?_
          refine AllReadyH.cons (o := { dst := some 48, op := Op.call { callee := Callee.value (Operand.func 14), args := #[Operand.tmp 45, Operand.tmp 47], argTypes := #[3, 3] }, type := 3, pos := "law.go:246", after := #[{ on := 2, ground := Ground.data }, { on := 4, ground := Ground.data }], guard := none }) rfl (fun K hK => ?_) ?_
          · go_simp
            refine Calls.mono (lawPick_calls ss m _ (by omega) (by omega) hss.1 hss.2) ?_
            rintro r w2 ⟨⟨x, hx, rfl⟩, hw2⟩
            subst hw2
            have p0 : W.drew.cell? ⟨g, x * 2, none⟩ = some (.pointer (some ⟨(f x).X, 0, none⟩)) := (HC.out x hx).1
            have p1 : W.drew.cell? ⟨g, x * 2 + 1, none⟩ = some (.pointer (some ⟨(f x).R, 0, none⟩)) := (HC.out x hx).2
            have hx0 : (0 : Int) ≤ (x : Int) := by omega
            have hx1 : (x : Int) < (m : Int) := by omega
            have hpx : PairAt W.drew B (f x) := (HAW.out.at_ x hx).up (Up.drew (Up.refl _))
            have HPX : Hid _ := hpx
            have HDo : Hid _ := does_calls W.drew B (f x) kd ss n t q b net key turn input d z5 hBW hpx
            clear hpx
            go_wp2_with fail
            refine hK.out _ _ ?_ (fun hHeld2 => ?_)
            · exact hHeld
            clear hHeld
            have hHeld := hHeld2
            clear hHeld2
            clear hK K
            try simp only [Act.put, List.setIfInBounds_toArray, List.set_cons_zero, List.set_cons_succ]
            refine wpAnyH_take (i := 6) (oi := { dst := some 49, op := Op.indexAddr 35 (Operand.tmp 43) (Operand.tmp 48), type := 0, pos := "law.go:246", after := #[{ on := 0, ground := Ground.data }, { on := 5, ground := Ground.data }], guard := none }) (v := ?_) rfl (by kernel_rfl) (by kernel_rfl) (by kernel_rfl) (fun _ _ _ h => h) (Or.inl ⟨by rfl, ?_⟩) (by assumption) ?_
            rotate_left
            · (intro w hSw; (try dsimp only at hSw); go_simp; try with_reducible rfl)
            try simp only [Act.put, List.setIfInBounds_toArray, List.set_cons_zero, List.set_cons_succ]
            refine wpAnyH_ready (rs := [7]) (by kernel_rfl) (by simp) ?_
            refine AllReadyH.cons (o := { dst := some 50, op := Op.load 41 (Operand.tmp 49), type := 41, pos := "law.go:246", after := #[{ on := 6, ground := Ground.data }], guard := none }) rfl (fun K hK => ?_) ?_
            · go_simp
              refine hK.out _ _ ?_ (fun hHeld2 => ?_)
              · exact hHeld
              clear hHeld
              have hHeld := hHeld2
              clear hHeld2
              clear hK K
              try simp only [Act.put, List.setIfInBounds_toArray, List.set_cons_zero, List.set_cons_succ]
              refine wpAnyH_ready (rs := [9]) (by kernel_rfl) (by simp) ?_
              refine AllReadyH.cons (o := { dst := some 52, op := Op.call { callee := Callee.value (Operand.func 13), args := #[Operand.tmp 50, Operand.tmp 51], argTypes := #[41, 37] }, type := 4, pos := "law.go:246", after := #[{ on := 7, ground := Ground.data }, { on := 8, ground := Ground.data }, { on := 5, ground := Ground.chain }], guard := none }) rfl (fun K hK => ?_) ?_
              · go_simp
                refine Calls.mono HDo.out ?_
                rintro r w5 ⟨rfl, p2, mv⟩
                have HMv : Hid _ := mv
                have hne : ¬ PS (f x) wr.heap.size := by
                  have hp := HA.out.at_ x hx
                  have h1 := hp.S.lt
                  have h2 := hp.C.lt
                  rintro (e | e | e)
                  · omega
                  · omega
                  · have := (World.ownsRow.lt hp.own _ e.symm).2
                    omega
                clear p0 p1
                go_wp2_with fail
                refine hK.out _ _ ?_ (fun hHeld2 => ?_)
                · exact ⟨HMv.out.turned.cell hHeld.1 hne, HMv.out.turned.cell hHeld.2.1 hne, HMv.out.turned.cell hHeld.2.2.1 hne, HMv.out.turned.cell hHeld.2.2.2.1 hne, HMv.out.turned.cell hHeld.2.2.2.2.1 hne, HMv.out.turned.cell hHeld.2.2.2.2.2.1 hne, HMv.out.turned.cell hHeld.2.2.2.2.2.2.1 hne, HMv.out.turned.cell hHeld.2.2.2.2.2.2.2.1 hne, HMv.out.turned.cell hHeld.2.2.2.2.2.2.2.2.1 hne, HMv.out.turned.cell hHeld.2.2.2.2.2.2.2.2.2.1 hne, HMv.out.turned.cell hHeld.2.2.2.2.2.2.2.2.2.2 hne⟩
                clear hHeld
                have hHeld := hHeld2
                clear hHeld2
                clear hK K
                try simp only [Act.put, List.setIfInBounds_toArray, List.set_cons_zero, List.set_cons_succ]
                refine wpAnyH_take (i := 10) (oi := { dst := some 7, op := Op.assign (Operand.tmp 52), type := 4, pos := "law.go:246", after := #[{ on := 9, ground := Ground.data }, { on := 9, ground := Ground.chain }, { on := 0, ground := Ground.phase }, { on := 1, ground := Ground.phase }, { on := 2, ground := Ground.phase }, { on := 3, ground := Ground.phase }, { on := 4, ground := Ground.phase }, { on := 5, ground := Ground.phase }, { on := 6, ground := Ground.phase }, { on := 7, ground := Ground.phase }, { on := 8, ground := Ground.phase }, { on := 9, ground := Ground.phase }], guard := none }) (v := ?_) rfl (by kernel_rfl) (by kernel_rfl) (by kernel_rfl) (fun _ _ _ h => h) (Or.inl ⟨by rfl, ?_⟩) (by assumption) ?_
                rotate_left
                · (intro w hSw; (try dsimp only at hSw); go_simp; try with_reducible rfl)
                try simp only [Act.put, List.setIfInBounds_toArray, List.set_cons_zero, List.set_cons_succ]
                refine wpAnyH_done (by kernel_rfl) ?_ _
                refine NoPanic.normal ?_
                have HF : Hid (All w5 B (.slice (some ⟨g, 0, none⟩) m cp) m (fun j => if j = x then p2 else f j)) := (HAW.out.up (Up.drew (Up.refl _))).moved hx HMv.out
                have hb5 : Below B W.drew w5 := HMv.out.turned.below hBW (fun k e => by
                  rcases e with rfl | rfl | e
                  · exact HPX.out.bX
                  · exact HPX.out.bR
                  · exact HPX.out.bD k e.symm)
                have hs5 : B ≤ w5.heap.size := Nat.le_trans hBW hb5.size
                have hf5 : Below B w w5 := Below.trans (Below.drew hbW) hb5
                clear hHeld hb5 hne o0 o1 o2 o3 o4 o5 o6 o7 o8 o9 o10
                go_wp2_with fail
                go_roundw
                case rel => exact ⟨i + 1, m, _, by omega, by omega, by go_num, HF, hs5, hf5⟩
                case measure => simp [intOf]; omega
              exact AllReadyH.nil
            exact AllReadyH.nil
          exact AllReadyH.nil
    · obtain rfl : i = k := by omega
      go_wp2_with fail
      go_ret
      exact ⟨rfl, by have := HB.out; subst this; exact hu⟩

end Go.Proofs.YtcjhgbljhpflfabGreat
