/-
  Walks: the statement Whole.
-/
import Derived.Test.YtcjhgbljhpflfabGreatKeepWi
import Derived.Test.YtcjhgbljhpflfabGreatKeepD
namespace Go.Proofs.YtcjhgbljhpflfabGreat
open Go.RowKit
set_option linter.unusedVariables false
set_option maxRecDepth 100000

set_option maxHeartbeats 32000000 in
theorem Whole_many (n t q b : Int) (d : ByteArray) (st : Option Addr) (k c : Nat) (inp tu : ByteArray) (ds : Option Addr) (kd cd : Nat) (f : Nat → ByteArray) (w : World) (hd : d.size ≤ maxLen) (hn : -9223372036854775808 ≤ n) (hn2 : n ≤ 9223372036854775807) (hinp : inp.size ≤ maxLen) (htu : tu.size ≤ maxLen) (hk : k ≤ 9223372036854775807) (hkd : kd ≤ 9223372036854775807)
    (hraw : ∀ i, i < k → ∃ (sb so : Nat) (bd : Bool) (sh : Int) (ms bs : ByteArray), st = some ⟨sb, so, none⟩ ∧ -9223372036854775808 ≤ sh ∧ sh ≤ 9223372036854775807 ∧ ms.size ≤ maxLen ∧ bs.size ≤ maxLen ∧ w.cell? ⟨sb, so + i * 4, none⟩ = some (.bool bd) ∧ w.cell? ⟨sb, so + i * 4 + 1, none⟩ = some (.int .i64 sh) ∧ w.cell? ⟨sb, so + i * 4 + 2, none⟩ = some (.string ms) ∧ w.cell? ⟨sb, so + i * 4 + 3, none⟩ = some (.string bs)) (hdr : DrawsAt w w.heap.size ds kd f) (hway : 3 < k) :
    Calls Tryz.prog 5 #[.agg #[.int .i64 n, .int .i64 t, .int .i64 q, .int .i64 b, .string d], .slice st k c, .string inp, .slice ds kd cd, .string tu] w fun e w' => e = .returned (.bool true) ∧ Up w w' := by
  have HRaw : Hid _ := hraw
  have HDr : Hid _ := hdr
  clear hraw hdr
  go_enter Tryz.func5, Tryz.ntmps5
  go_wp2_with fail
  refine (begin_calls n t q b d _ hd hn hn2).mono ?_
  rintro e w1 ⟨g, m, u, q', b', p, rfl, hB1, hu1⟩
  have P : Hid _ := p
  obtain ⟨hd1, hd2, hd3⟩ := p.nt.half
  have hm16 : m ≤ 16 := by omega
  have hm4 : 4 ≤ m := by omega
  clear hd1 hd2 hd3
  have ht := p.nt.t3
  have ht2 := p.nt.ht
  have HN : Hid _ := p.nt.hn
  have HBc : Hid (BoxAt w1 g m u q' b' (keyL d.data.toList m)) := hB1
  have hUw : Up w w1 := ((Up.refl _).alloc _).trans hu1
  have hq1 := p.q1
  have hq2 := p.q2
  have hb1 : 1 ≤ b' := (goodB_NT p.good).2.2.2.2.2.1
  have hb2 : b' ≤ 8 := (goodB_NT p.good).2.2.2.2.2.2.1
  obtain ⟨L, hL⟩ := dig_ex q' b' hq1 hq2 hb1
  have HLd : Hid _ := hL
  have HSec : Hid _ := sec_key d.data.toList m
  have HTK : Hid (∀ W, Calls Tryz.prog 18 #[.agg #[.int .i64 m, .int .i64 u, .int .i64 q', .int .i64 b'], .string ⟨(keyL d.data.toList m).toArray⟩, .string tu] W fun e w' => e = .returned (.tuple #[.string ⟨(tkL m (secI (keyL d.data.toList m) m) q' b' tu.data.toList L).toArray⟩, .int .i64 0]) ∧ Up W w') := fun W => by
    have := TurnKey_ok m L u q' b' ⟨(keyL d.data.toList m).toArray⟩ tu W (key_size _ _ (by omega)) htu HN.out hq1 hq2 hb1 hb2 HLd.out P.out.good (by rw [bytes_back]; exact HSec.out)
    rw [bytes_back] at this
    exact this
  clear hL
  clear p hB1 hu1
  go_wp2_with fail
  go_loopw [12, 13] (fun v si wr => ∃ (i : Nat) (F : Nat → Lay) (xs : List Value), i ≤ k ∧ i ≤ 3 ∧ si = .int .i64 (i : Int) ∧ Hid (LaysK wr w1.heap.size m u v i F xs) ∧ Up w1 wr) (fun _ si _ => 3 - (intOf si).toNat)
  case atStart => exact ⟨0, fun _ => ⟨false, 0, [], []⟩, [], Nat.zero_le _, Nat.zero_le _, rfl, LaysK.empty _ _ _ _ _, Up.refl _⟩
  case round =>
    obtain ⟨i, F, xs, hik, hi3, rfl, HK, hu⟩ := hrel
    by_cases hlt : i < k ∧ i < 3
    · obtain ⟨sb, so, bd, sh, ms, bs, rfl, hsh, hsh2, hms, hbs, y0, y1, y2, y3⟩ := HRaw.out i hlt.1
      have hY0 := keepC (hUw.trans hu) y0
      have hY1 := keepC (hUw.trans hu) y1
      have hY2 := keepC (hUw.trans hu) y2
      have hY3 := keepC (hUw.trans hu) y3
      clear y0 y1 y2 y3
      have hc0 := (HBc.out.up hu).c0
      have hc1 := (HBc.out.up hu).c1
      have hc2 := (HBc.out.up hu).c2
      have hc3 := (HBc.out.up hu).c3
      have hne1 : wr.heap.size ≠ sb := by have h : sb < wr.heap.size := World.block_lt_of_cell? wr _ hY0; omega
      have hne2 : wr.heap.size ≠ g := by have h : g < wr.heap.size := World.block_lt_of_cell? wr _ hc0; omega
      have hi0 : (0 : Int) ≤ (i : Int) := by omega
      have hi1 : (i : Int) < (k : Int) := by omega
      have hi2 : (i : Int) < 3 := by omega
      go_wp2_with fail
      refine wp_region_noPanic ?_
      refine wp_region_held_drew (S := (fun w' => w'.cell? ⟨sb, so + i * 4, none⟩ = some (.bool bd) ∧ w'.cell? ⟨sb, so + i * 4 + 1, none⟩ = some (.int .i64 sh) ∧ w'.cell? ⟨sb, so + i * 4 + 2, none⟩ = some (.string ms) ∧ w'.cell? ⟨sb, so + i * 4 + 3, none⟩ = some (.string bs) ∧ w'.cell? ⟨g, 0, none⟩ = some (.int .i64 (m : Int)) ∧ w'.cell? ⟨g, 1, none⟩ = some (.int .i64 (u : Int)) ∧ w'.cell? ⟨g, 2, none⟩ = some (.int .i64 q') ∧ w'.cell? ⟨g, 3, none⟩ = some (.int .i64 b'))) (by kernel_rfl) ?_ (fun hHeld => ?_)
      · exact ⟨hY0, hY1, hY2, hY3, hc0, hc1, hc2, hc3⟩
      refine wpAnyH_take (i := 0) (oi := { dst := some 41, op := Op.move (Operand.tmp 1), type := 49, pos := "nets.go:187", after := #[], guard := none }) (v := ?_) rfl (by kernel_rfl) (by kernel_rfl) (by kernel_rfl) (fun _ _ _ h => h) (Or.inl ⟨by rfl, ?_⟩) (by assumption) ?_
      rotate_left
      · (intro w hSw; (try dsimp only at hSw); go_simp; try with_reducible rfl)
      try simp only [Act.put, List.setIfInBounds_toArray, List.set_cons_zero, List.set_cons_succ]
      refine wpAnyH_take (i := 1) (oi := { dst := some 42, op := Op.move (Operand.tmp 13), type := 3, pos := "nets.go:187", after := #[], guard := none }) (v := ?_) rfl (by kernel_rfl) (by kernel_rfl) (by kernel_rfl) (fun _ _ _ h => h) (Or.inl ⟨by rfl, ?_⟩) (by assumption) ?_
      rotate_left
      · (intro w hSw; (try dsimp only at hSw); go_simp; try with_reducible rfl)
      try simp only [Act.put, List.setIfInBounds_toArray, List.set_cons_zero, List.set_cons_succ]
      refine wpAnyH_take (i := 2) (oi := { dst := some 43, op := Op.indexAddr 49 (Operand.tmp 41) (Operand.tmp 42), type := 0, pos := "nets.go:187", after := #[{ on := 0, ground := Ground.data }, { on := 1, ground := Ground.data }], guard := none }) (v := ?_) rfl (by kernel_rfl) (by kernel_rfl) (by kernel_rfl) (fun _ _ _ h => h) (Or.inl ⟨by rfl, ?_⟩) (by assumption) ?_
      rotate_left
      · (intro w hSw; (try dsimp only at hSw); go_simp; try with_reducible rfl)
      try simp only [Act.put, List.setIfInBounds_toArray, List.set_cons_zero, List.set_cons_succ]
      refine wpAnyH_take (i := 3) (oi := { dst := some 44, op := Op.load 58 (Operand.tmp 43), type := 58, pos := "nets.go:187", after := #[{ on := 2, ground := Ground.data }], guard := none }) (v := ?_) rfl (by kernel_rfl) (by kernel_rfl) (by kernel_rfl) (fun _ _ _ h => h) (Or.inl ⟨by rfl, ?_⟩) (by assumption) ?_
      rotate_left
      · (intro w hSw; (try dsimp only at hSw); go_simp; try with_reducible rfl)
      try simp only [Act.put, List.setIfInBounds_toArray, List.set_cons_zero, List.set_cons_succ]
      refine wpAnyH_take (i := 4) (oi := { dst := some 45, op := Op.move (Operand.tmp 11), type := 51, pos := "nets.go:187", after := #[], guard := none }) (v := ?_) rfl (by kernel_rfl) (by kernel_rfl) (by kernel_rfl) (fun _ _ _ h => h) (Or.inl ⟨by rfl, ?_⟩) (by assumption) ?_
      rotate_left
      · (intro w hSw; (try dsimp only at hSw); go_simp; try with_reducible rfl)
      try simp only [Act.put, List.setIfInBounds_toArray, List.set_cons_zero, List.set_cons_succ]
      refine wpAnyH_take (i := 5) (oi := { dst := some 46, op := Op.nilCheck (Operand.tmp 45), type := 0, pos := "nets.go:187", after := #[{ on := 4, ground := Ground.data }], guard := none }) (v := ?_) rfl (by kernel_rfl) (by kernel_rfl) (by kernel_rfl) (fun _ _ _ h => h) (Or.inl ⟨by rfl, ?_⟩) (by assumption) ?_
      rotate_left
      · (intro w hSw; (try dsimp only at hSw); go_simp; try with_reducible rfl)
      try simp only [Act.put, List.setIfInBounds_toArray, List.set_cons_zero, List.set_cons_succ]
      refine wpAnyH_take (i := 6) (oi := { dst := some 47, op := Op.fieldAddr 61 (Operand.tmp 46) 0, type := 0, pos := "nets.go:187", after := #[{ on := 5, ground := Ground.data }], guard := none }) (v := ?_) rfl (by kernel_rfl) (by kernel_rfl) (by kernel_rfl) (fun _ _ _ h => h) (Or.inl ⟨by rfl, ?_⟩) (by assumption) ?_
      rotate_left
      · (intro w hSw; (try dsimp only at hSw); go_simp; try with_reducible rfl)
      try simp only [Act.put, List.setIfInBounds_toArray, List.set_cons_zero, List.set_cons_succ]
      refine wpAnyH_take (i := 7) (oi := { dst := some 48, op := Op.load 28 (Operand.tmp 47), type := 28, pos := "nets.go:187", after := #[{ on := 6, ground := Ground.data }], guard := none }) (v := ?_) rfl (by kernel_rfl) (by kernel_rfl) (by kernel_rfl) (fun _ _ _ h => h) (Or.inl ⟨by rfl, ?_⟩) (by assumption) ?_
      rotate_left
      · (intro w hSw; (try dsimp only at hSw); go_simp; try with_reducible rfl)
      try simp only [Act.put, List.setIfInBounds_toArray, List.set_cons_zero, List.set_cons_succ]
      refine wpAnyH_ready (rs := [8, 9]) (by kernel_rfl) (by simp) ?_
      refine AllReadyH.cons (o := { dst := some 49, op := Op.call { callee := Callee.value (Operand.func 16), args := #[Operand.tmp 44, Operand.tmp 48], argTypes := #[58, 28] }, type := 56, pos := "nets.go:187", after := #[{ on := 3, ground := Ground.data }, { on := 7, ground := Ground.data }], guard := none }) rfl (fun K hK => ?_) ?_
      · go_simp
        refine Calls.mono (worked_calls m u q' b' bd sh ms bs _ hms hbs HN.out (by omega) (by omega) hsh hsh2) ?_
        rintro r w2 ⟨s2, gm, cm, gb, cb, hs2, rfl, hgm, hgb, iM, iB, hu2⟩
        have hu12 : Up wr w2 := Up.trans (Up.drew (Up.refl _)) hu2
        go_wp2_with fail
        refine hK.out _ _ ?_ (fun hHeld2 => ?_)
        · exact keepC8w hu2 hHeld
        clear hHeld
        have hHeld := hHeld2
        clear hHeld2
        clear hK K
        try simp only [Act.put, List.setIfInBounds_toArray, List.set_cons_zero, List.set_cons_succ]
        refine wpAnyH_ready (rs := [9]) (by kernel_rfl) (by simp) ?_
        refine AllReadyH.cons (o := { dst := some 14, op := Op.alloc 56, type := 0, pos := "nets.go:187", after := #[], guard := none }) rfl (fun K hK => ?_) ?_
        · go_simp
          refine hK.out _ _ ?_ (fun hHeld2 => ?_)
          · exact keepC8w (Up.alloc (Up.refl _) _) hHeld
          clear hHeld
          have hHeld := hHeld2
          clear hHeld2
          clear hK K
          try simp only [Act.put, List.setIfInBounds_toArray, List.set_cons_zero, List.set_cons_succ]
          refine wpAnyH_ready (rs := [10]) (by kernel_rfl) (by simp) ?_
          refine AllReadyH.cons (o := { dst := none, op := Op.store 56 (Operand.tmp 14) (Operand.tmp 49), type := 0, pos := "nets.go:187", after := #[{ on := 9, ground := Ground.data }, { on := 8, ground := Ground.data }, { on := 8, ground := Ground.chain }, { on := 0, ground := Ground.phase }, { on := 1, ground := Ground.phase }, { on := 2, ground := Ground.phase }, { on := 3, ground := Ground.phase }, { on := 4, ground := Ground.phase }, { on := 5, ground := Ground.phase }, { on := 6, ground := Ground.phase }, { on := 7, ground := Ground.phase }, { on := 8, ground := Ground.phase }, { on := 9, ground := Ground.phase }], guard := none }) rfl (fun K hK => ?_) ?_
          · go_simp
            refine hK.out _ _ ?_ (fun hHeld2 => ?_)
            · exact keepC8w (Up.alloc hu12 _) ⟨hY0, hY1, hY2, hY3, hc0, hc1, hc2, hc3⟩
            clear hHeld
            have hHeld := hHeld2
            clear hHeld2
            clear hK K
            try simp only [Act.put, List.setIfInBounds_toArray, List.set_cons_zero, List.set_cons_succ]
            refine wpAnyH_done (by kernel_rfl) ?_ _
            refine NoPanic.normal ?_
            have hL0 : (w2.alloc (.cells #[.bool bd, .int .i64 (s2 : Int), .slice (some ⟨gm, 0, none⟩) (m / 2 * (m / 2)) cm, .slice (some ⟨gb, 0, none⟩) m cb] 56)).cell? ⟨w2.heap.size, 0, none⟩ = some (.bool bd) := by simp
            have hL1 : (w2.alloc (.cells #[.bool bd, .int .i64 (s2 : Int), .slice (some ⟨gm, 0, none⟩) (m / 2 * (m / 2)) cm, .slice (some ⟨gb, 0, none⟩) m cb] 56)).cell? ⟨w2.heap.size, 1, none⟩ = some (.int .i64 (s2 : Int)) := by simp
            have hL2 : (w2.alloc (.cells #[.bool bd, .int .i64 (s2 : Int), .slice (some ⟨gm, 0, none⟩) (m / 2 * (m / 2)) cm, .slice (some ⟨gb, 0, none⟩) m cb] 56)).cell? ⟨w2.heap.size, 2, none⟩ = some (.slice (some ⟨gm, 0, none⟩) (m / 2 * (m / 2)) cm) := by simp
            have hL3 : (w2.alloc (.cells #[.bool bd, .int .i64 (s2 : Int), .slice (some ⟨gm, 0, none⟩) (m / 2 * (m / 2)) cm, .slice (some ⟨gb, 0, none⟩) m cb] 56)).cell? ⟨w2.heap.size, 3, none⟩ = some (.slice (some ⟨gb, 0, none⟩) m cb) := by simp
            replace iM := iM.up ((Up.refl w2).alloc (.cells #[.bool bd, .int .i64 (s2 : Int), .slice (some ⟨gm, 0, none⟩) (m / 2 * (m / 2)) cm, .slice (some ⟨gb, 0, none⟩) m cb] 56))
            replace iB := iB.up ((Up.refl w2).alloc (.cells #[.bool bd, .int .i64 (s2 : Int), .slice (some ⟨gm, 0, none⟩) (m / 2 * (m / 2)) cm, .slice (some ⟨gb, 0, none⟩) m cb] 56))
            have hu1W : Up wr (w2.alloc (.cells #[.bool bd, .int .i64 (s2 : Int), .slice (some ⟨gm, 0, none⟩) (m / 2 * (m / 2)) cm, .slice (some ⟨gb, 0, none⟩) m cb] 56)) := hu12.alloc _
            generalize (w2.alloc (.cells #[.bool bd, .int .i64 (s2 : Int), .slice (some ⟨gm, 0, none⟩) (m / 2 * (m / 2)) cm, .slice (some ⟨gb, 0, none⟩) m cb] 56)) = W2 at hL0 hL1 hL2 hL3 iM iB hu1W ⊢
            generalize w2.heap.size = G at hL0 hL1 hL2 hL3 ⊢
            skip
            clear hHeld hu2 hu12 hgm hgb hne1 hne2 hY0 hY1 hY2 hY3 hc0 hc1 hc2 hc3
            skip
            have ol : Lay.Ok ⟨bd, s2, valsI (m / 2 * (m / 2)) u ms.data.toList, valsI m u bs.data.toList⟩ m u := ⟨hs2, valsI_length _ _ _, valsI_length _ _ _, valsI_small _ _ _ (by omega), valsI_small _ _ _ (by omega)⟩
            have hLV : LayV W2 m ⟨bd, s2, valsI (m / 2 * (m / 2)) u ms.data.toList, valsI m u bs.data.toList⟩ (.bool bd) (.int .i64 (s2 : Int)) (.slice (some ⟨gm, 0, none⟩) (m / 2 * (m / 2)) cm) (.slice (some ⟨gb, 0, none⟩) m cb) := ⟨gm, cm, gb, cb, rfl, rfl, rfl, rfl, iM, iB⟩
            have HK2 : Hid _ := HK.out.up hu1W
            have HOL : Hid (Lay.Ok ⟨bd, s2, valsI (m / 2 * (m / 2)) u ms.data.toList, valsI m u bs.data.toList⟩ m u) := ol
            have HLV : Hid (LayV W2 m ⟨bd, s2, valsI (m / 2 * (m / 2)) u ms.data.toList, valsI m u bs.data.toList⟩ (.bool bd) (.int .i64 (s2 : Int)) (.slice (some ⟨gm, 0, none⟩) (m / 2 * (m / 2)) cm) (.slice (some ⟨gb, 0, none⟩) m cb)) := hLV
            clear ol hLV iM iB HK
            have hbase : w1.heap.size ≤ W2.heap.size := (hu.trans hu1W).size
            go_wp2_with (at_builtin; refine append_klay W2 _ _ _ _ rfl rfl rfl rfl rfl _ _ rfl w1.heap.size _ i xs rfl HK2.out.own rfl (by omega) hbase ?_)
            intro v4 w4 ho4 hg4 hb4
            clear hL0 hL1 hL2 hL3
            go_wp2_with fail
            go_roundw
            case rel => exact ⟨i + 1, _, _, by omega, by omega, by go_num, HK2.out.more HLV.out HOL.out hm4 ho4 hg4, Below.trans (hu.trans hu1W) hb4⟩
            case measure => simp [intOf]; omega
          exact AllReadyH.nil
        exact AllReadyH.nil
      refine AllReadyH.cons (o := { dst := some 14, op := Op.alloc 56, type := 0, pos := "nets.go:187", after := #[], guard := none }) rfl (fun K hK => ?_) ?_
      · go_simp
        refine hK.out _ _ ?_ (fun hHeld2 => ?_)
        · exact keepC8w (Up.drew (Up.alloc (Up.refl wr) _)) ⟨hY0, hY1, hY2, hY3, hc0, hc1, hc2, hc3⟩
        clear hHeld
        have hHeld := hHeld2
        clear hHeld2
        clear hK K
        try simp only [Act.put, List.setIfInBounds_toArray, List.set_cons_zero, List.set_cons_succ]
        refine wpAnyH_ready (rs := [8]) (by kernel_rfl) (by simp) ?_
        refine AllReadyH.cons (o := { dst := some 49, op := Op.call { callee := Callee.value (Operand.func 16), args := #[Operand.tmp 44, Operand.tmp 48], argTypes := #[58, 28] }, type := 56, pos := "nets.go:187", after := #[{ on := 3, ground := Ground.data }, { on := 7, ground := Ground.data }], guard := none }) rfl (fun K hK => ?_) ?_
        · go_simp
          refine Calls.mono (worked_calls m u q' b' bd sh ms bs _ hms hbs HN.out (by omega) (by omega) hsh hsh2) ?_
          rintro r w2 ⟨s2, gm, cm, gb, cb, hs2, rfl, hgm, hgb, iM, iB, hu2⟩
          have hu12 : Up wr w2 := Up.trans (Up.drew (Up.alloc (Up.refl _) _)) hu2
          have hg0 := keepC (p := ⟨wr.heap.size, 0, none⟩) hu2 (by simp; rfl)
          have hg1 := keepC (p := ⟨wr.heap.size, 1, none⟩) hu2 (by simp; rfl)
          have hg2 := keepC (p := ⟨wr.heap.size, 2, none⟩) hu2 (by simp; rfl)
          have hg3 := keepC (p := ⟨wr.heap.size, 3, none⟩) hu2 (by simp; rfl)
          have hzg : ∀ o, w2.frozen? ⟨wr.heap.size, o, none⟩ = false := fun o => frozen_up hu2 (by simp; rfl) (by simp)
          go_wp2_with fail
          refine hK.out _ _ ?_ (fun hHeld2 => ?_)
          · exact keepC8w hu2 hHeld
          clear hHeld
          have hHeld := hHeld2
          clear hHeld2
          clear hK K
          try simp only [Act.put, List.setIfInBounds_toArray, List.set_cons_zero, List.set_cons_succ]
          refine wpAnyH_ready (rs := [10]) (by kernel_rfl) (by simp) ?_
          refine AllReadyH.cons (o := { dst := none, op := Op.store 56 (Operand.tmp 14) (Operand.tmp 49), type := 0, pos := "nets.go:187", after := #[{ on := 9, ground := Ground.data }, { on := 8, ground := Ground.data }, { on := 8, ground := Ground.chain }, { on := 0, ground := Ground.phase }, { on := 1, ground := Ground.phase }, { on := 2, ground := Ground.phase }, { on := 3, ground := Ground.phase }, { on := 4, ground := Ground.phase }, { on := 5, ground := Ground.phase }, { on := 6, ground := Ground.phase }, { on := 7, ground := Ground.phase }, { on := 8, ground := Ground.phase }, { on := 9, ground := Ground.phase }], guard := none }) rfl (fun K hK => ?_) ?_
          · go_simp
            refine hK.out _ _ ?_ (fun hHeld2 => ?_)
            · exact ⟨(far_cell4 hne1).trans hHeld.1, (far_cell4 hne1).trans hHeld.2.1, (far_cell4 hne1).trans hHeld.2.2.1, (far_cell4 hne1).trans hHeld.2.2.2.1, (far_cell4 hne2).trans hHeld.2.2.2.2.1, (far_cell4 hne2).trans hHeld.2.2.2.2.2.1, (far_cell4 hne2).trans hHeld.2.2.2.2.2.2.1, (far_cell4 hne2).trans hHeld.2.2.2.2.2.2.2⟩
            clear hHeld
            have hHeld := hHeld2
            clear hHeld2
            clear hK K
            try simp only [Act.put, List.setIfInBounds_toArray, List.set_cons_zero, List.set_cons_succ]
            refine wpAnyH_done (by kernel_rfl) ?_ _
            refine NoPanic.normal ?_
            obtain ⟨hL0, hL1, hL2, hL3⟩ := same_cell4 (x0 := .bool bd) (x1 := .int .i64 (s2 : Int)) (x2 := .slice (some ⟨gm, 0, none⟩) (m / 2 * (m / 2)) cm) (x3 := .slice (some ⟨gb, 0, none⟩) m cb) hg0 hg1 hg2 hg3
            have hgM : wr.heap.size ≠ gm := by simp at hgm; omega
            have hgB : wr.heap.size ≠ gb := by simp at hgb; omega
            replace iM := IsI.put (IsI.put (IsI.put (IsI.put (o := 0) iM hgM (.bool bd)) (o := 1) hgM (.int .i64 (s2 : Int))) (o := 2) hgM (.slice (some ⟨gm, 0, none⟩) (m / 2 * (m / 2)) cm)) (o := 3) hgM (.slice (some ⟨gb, 0, none⟩) m cb)
            replace iB := IsI.put (IsI.put (IsI.put (IsI.put (o := 0) iB hgB (.bool bd)) (o := 1) hgB (.int .i64 (s2 : Int))) (o := 2) hgB (.slice (some ⟨gm, 0, none⟩) (m / 2 * (m / 2)) cm)) (o := 3) hgB (.slice (some ⟨gb, 0, none⟩) m cb)
            have hu1W : Up wr ((((w2.setCell ⟨wr.heap.size, 0, none⟩ (.bool bd)).setCell ⟨wr.heap.size, 1, none⟩ (.int .i64 (s2 : Int))).setCell ⟨wr.heap.size, 2, none⟩ (.slice (some ⟨gm, 0, none⟩) (m / 2 * (m / 2)) cm)).setCell ⟨wr.heap.size, 3, none⟩ (.slice (some ⟨gb, 0, none⟩) m cb)) := (((hu12.setCell (by simp) _).setCell (by simp) _).setCell (by simp) _).setCell (by simp) _
            generalize ((((w2.setCell ⟨wr.heap.size, 0, none⟩ (.bool bd)).setCell ⟨wr.heap.size, 1, none⟩ (.int .i64 (s2 : Int))).setCell ⟨wr.heap.size, 2, none⟩ (.slice (some ⟨gm, 0, none⟩) (m / 2 * (m / 2)) cm)).setCell ⟨wr.heap.size, 3, none⟩ (.slice (some ⟨gb, 0, none⟩) m cb)) = W2 at hL0 hL1 hL2 hL3 iM iB hu1W ⊢
            skip
            skip
            clear hHeld hu2 hu12 hgm hgb hne1 hne2 hY0 hY1 hY2 hY3 hc0 hc1 hc2 hc3
            clear hg0 hg1 hg2 hg3 hzg hgM hgB
            have ol : Lay.Ok ⟨bd, s2, valsI (m / 2 * (m / 2)) u ms.data.toList, valsI m u bs.data.toList⟩ m u := ⟨hs2, valsI_length _ _ _, valsI_length _ _ _, valsI_small _ _ _ (by omega), valsI_small _ _ _ (by omega)⟩
            have hLV : LayV W2 m ⟨bd, s2, valsI (m / 2 * (m / 2)) u ms.data.toList, valsI m u bs.data.toList⟩ (.bool bd) (.int .i64 (s2 : Int)) (.slice (some ⟨gm, 0, none⟩) (m / 2 * (m / 2)) cm) (.slice (some ⟨gb, 0, none⟩) m cb) := ⟨gm, cm, gb, cb, rfl, rfl, rfl, rfl, iM, iB⟩
            have HK2 : Hid _ := HK.out.up hu1W
            have HOL : Hid (Lay.Ok ⟨bd, s2, valsI (m / 2 * (m / 2)) u ms.data.toList, valsI m u bs.data.toList⟩ m u) := ol
            have HLV : Hid (LayV W2 m ⟨bd, s2, valsI (m / 2 * (m / 2)) u ms.data.toList, valsI m u bs.data.toList⟩ (.bool bd) (.int .i64 (s2 : Int)) (.slice (some ⟨gm, 0, none⟩) (m / 2 * (m / 2)) cm) (.slice (some ⟨gb, 0, none⟩) m cb)) := hLV
            clear ol hLV iM iB HK
            have hbase : w1.heap.size ≤ W2.heap.size := (hu.trans hu1W).size
            go_wp2_with (at_builtin; refine append_klay W2 _ _ _ _ rfl rfl rfl rfl rfl _ _ rfl w1.heap.size _ i xs rfl HK2.out.own rfl (by omega) hbase ?_)
            intro v4 w4 ho4 hg4 hb4
            clear hL0 hL1 hL2 hL3
            go_wp2_with fail
            go_roundw
            case rel => exact ⟨i + 1, _, _, by omega, by omega, by go_num, HK2.out.more HLV.out HOL.out hm4 ho4 hg4, Below.trans (hu.trans hu1W) hb4⟩
            case measure => simp [intOf]; omega
          exact AllReadyH.nil
        exact AllReadyH.nil
      exact AllReadyH.nil
    · have hi1 : (i : Int) < (k : Int) := by omega
      have hi2 : ¬ (i : Int) < 3 := by omega
      have hK1 : 1 ≤ i := by omega
      have hz0 : ((i : Int) == 0) = false := beq_eq_false_iff_ne.2 (by omega)
      have hz1 : ¬ (i : Int) = 0 := by omega
      have hz2 : ¬ i = 0 := by omega
      obtain ⟨H, cap, rfl, hbH, hlay⟩ := HK.out.at_ hK1
      have HLy : Hid (∀ j, j < i → LayAt wr H (j * 4) m (F j)) := hlay
      have HOk : Hid (∀ j, j < i → (F j).Ok m u) := HK.out.ok
      clear hlay HK
      have HB2 : Hid _ := HBc.out.up hu
      have hc0 := HB2.out.c0
      have hc1 := HB2.out.c1
      have hc2 := HB2.out.c2
      have hc3 := HB2.out.c3
      have HVL : Hid _ := valsI_length m u inp.data.toList
      have HVS : Hid _ := valsI_small m u inp.data.toList (by omega)
      go_wp2_with fail
      refine (values_row m u q' b' inp _ hinp hm4 hm16 (by omega) (by omega)).mono ?_
      rintro e wv ⟨gl, cl, rfl, il, huv⟩
      generalize valsI m u inp.data.toList = V at HVL HVS il
      clear hc0 hc1 hc2 hc3
      have HB3 : Hid _ := HB2.out.up huv
      have hc0 := HB3.out.c0
      have hc1 := HB3.out.c1
      have hc2 := HB3.out.c2
      have hc3 := HB3.out.c3
      have hc4 := HB3.out.c4
      generalize hKe : (⟨(keyL d.data.toList m).toArray⟩ : ByteArray) = KK at HTK hc4
      have HKe : Hid _ := hKe
      clear hKe
      generalize hTe : (⟨(tkL m (secI (keyL d.data.toList m) m) q' b' tu.data.toList L).toArray⟩ : ByteArray) = TK at HTK
      have HTe : Hid _ := hTe
      clear hTe
      go_wp2_with fail
      go_region_held3 (fun w' => w'.cell? ⟨g, 0, none⟩ = some (.int .i64 (m : Int)) ∧ w'.cell? ⟨g, 1, none⟩ = some (.int .i64 (u : Int)) ∧ w'.cell? ⟨g, 2, none⟩ = some (.int .i64 q') ∧ w'.cell? ⟨g, 3, none⟩ = some (.int .i64 b') ∧ w'.cell? ⟨g, 4, none⟩ = some (.string KK)) (first | go_keep | exact keepC5 hu4 (by assumption)) ((first | (go_at_call 18; refine Calls.mono (HTK.out _) ?_; rintro e w4 ⟨rfl, hu4⟩)))
      have hv4 : Up wv w4 := Up.trans (Up.drew (Up.refl _)) hu4
      clear hc0 hc1 hc2 hc3 hc4 hu4
      have h256 : ((256 ^ 2 : Nat) : Int) = 65536 := by decide
      have il4 := il.up hv4
      have HB4 : Hid _ := HB3.out.up hv4
      have HLy4 : Hid (∀ j, j < i → LayAt w4 H (j * 4) m (F j)) := fun j hj => (HLy.out j hj).up (huv.trans hv4)
      have hU4 : Up w w4 := hUw.trans (hu.trans (huv.trans hv4))
      clear HB2 HB3 HLy il hv4 huv hu
      obtain ⟨D, hD⟩ : ∃ D, D = datOf m u q' b' L (keyL d.data.toList m) tu.data.toList F i := ⟨_, rfl⟩
      have O : D.Ok := by rw [hD]; exact datOf_ok P.out hb1 hb2 HLd.out _ _ HSec.out F i hK1 hi3 HOk.out
      have HDN : Hid (D.N = i) := show _ = _ by rw [hD]; exact datOf_N _ _ _ _ _ _ _ _ _ hi3
      have HDl : Hid (∀ j, j < i → layOf m D.net j = (F j).text) := fun j hj => by rw [hD]; exact datOf_lay _ _ _ _ _ _ _ _ _ HOk.out j hj
      have HDt : Hid (D.tk = tkL D.n (secI D.key D.n) D.q D.b tu.data.toList D.L) := show _ = _ by rw [hD]; rfl
      have hDn : D.n = m := by rw [hD]; rfl
      have hDt : D.t = u := by rw [hD]; rfl
      have hDq : D.q = q' := by rw [hD]; rfl
      have hDb : D.b = b' := by rw [hD]; rfl
      have hDk : D.key = keyL d.data.toList m := by rw [hD]; rfl
      have hDe : D.net = netL (netOf F i) := by rw [hD]; rfl
      have hDm : D.tk = tkL m (secI (keyL d.data.toList m) m) q' b' tu.data.toList L := by rw [hD]; rfl
      have hnl : (⟨(netL (netOf F i)).toArray⟩ : ByteArray).size ≤ maxLen := by
        show (netL (netOf F i)).toArray.size ≤ _
        rw [List.size_toArray, netL, List.length_append, flat_len (sizN m) _ (netOf_sizes F i HOk.out), netOf_length]
        have h1 := sizN_le m HN.out
        have h2 := Nat.mul_le_mul hi3 h1
        simp only [List.length_cons, List.length_nil]
        unfold maxLen
        omega
      have hVT := size_texts V m HVL.out (by omega)
      have hVok : okL (textsL 2 V) m 2 u = true := okL_texts V m 2 u HVL.out HVS.out (by omega)
      have HNt : Hid (∀ W, Up w4 W → Calls Tryz.prog 20 #[.slice (some ⟨H, 0, none⟩) i cap] W fun e w' => e = .returned (.string ⟨(netL (netOf F i)).toArray⟩) ∧ Up W w') := fun W hW => netText_calls m u F H i cap W HN.out (by omega) hK1 hi3 HOk.out (fun j hj => (HLy4.out j hj).up hW)
      have HTx : Hid (∀ W gp cp, IsI W gp V → Calls Tryz.prog 21 #[.slice (some ⟨gp, 0, none⟩) m cp] W fun e w' => e = .returned (.string ⟨(textsL 2 V).toArray⟩) ∧ Up W w') := fun W gp cp hi => keepText_calls m V gp cp W HVL.out (by omega) (fun i hi => by have := HVS.out i hi; omega) hi
      have HNew : Hid (∀ W, Calls Tryz.prog 19 #[.agg #[.int .i64 m, .int .i64 u, .int .i64 q', .int .i64 b'], .string ⟨(netL (netOf F i)).toArray⟩, .string KK, .string TK, .string ⟨(textsL 2 V).toArray⟩] W fun r w' => ∃ X, r = .returned (.tuple #[.pointer (some ⟨X, 0, none⟩), .int .i64 0]) ∧ W.heap.size ≤ X ∧ SessAt w' X D 0 0 (St.begin m (textsL 2 V)) ∧ Up W w') := fun W => by
        have := new_keep P.out hb1 hb2 HLd.out (keyL d.data.toList m) tu.data.toList HSec.out (key_size _ _ (by omega)) F i hK1 hi3 HOk.out V HVL.out HVS.out W
        rw [HKe.out, HTe.out, ← hD] at this
        exact this
      have HPl : Hid (∀ W, Calls Tryz.prog 23 #[.agg #[.int .i64 m, .int .i64 u, .int .i64 q', .int .i64 b'], .string ⟨(netL (netOf F i)).toArray⟩, .string ⟨(textsL 2 V).toArray⟩] W fun e w' => e = .returned (.tuple #[.string ⟨(textsL 2 (playI m u (netL (netOf F i)) V i)).toArray⟩, .int .i64 0]) ∧ Up W w') := fun W => plain_keep P.out F i hK1 hi3 HOk.out V HVL.out HVS.out W
      have HDe : Hid (D.net = netL (netOf F i)) := hDe
      generalize (⟨(netL (netOf F i)).toArray⟩ : ByteArray) = NT at HNt HNew HPl
      generalize (⟨(textsL 2 V).toArray⟩ : ByteArray) = VT at HTx HNew HPl
      clear hVok hVT hnl hDe hDm hD
      have hc0 := HB4.out.c0
      have hc1 := HB4.out.c1
      have hc2 := HB4.out.c2
      have hc3 := HB4.out.c3
      have hc4 : w4.cell? ⟨g, 4, none⟩ = some (.string KK) := by rw [← HKe.out]; exact HB4.out.c4
      go_wp2_with fail
      go_region_held3 (fun w' => w'.cell? ⟨g, 0, none⟩ = some (.int .i64 (m : Int)) ∧ w'.cell? ⟨g, 1, none⟩ = some (.int .i64 (u : Int)) ∧ w'.cell? ⟨g, 2, none⟩ = some (.int .i64 q') ∧ w'.cell? ⟨g, 3, none⟩ = some (.int .i64 b') ∧ w'.cell? ⟨g, 4, none⟩ = some (.string KK)) (first | go_keep | exact keepC5 hua3 (by assumption) | exact keepC5 hua2 (by assumption) | exact keepC5 hua1 (by assumption)) ((first | (go_at_call 20; refine Calls.mono (HNt.out _ (Up.drew (Up.refl _))) ?_; rintro e wa1 ⟨rfl, hua1⟩) | (go_at_call 21; refine Calls.mono (HTx.out _ gl cl (il4.up (Up.trans (Up.drew (Up.refl _)) hua1))) ?_; rintro e wa2 ⟨rfl, hua2⟩) | (go_at_call 19; refine Calls.mono (HNew.out _) ?_; rintro e w5 ⟨X, rfl, hX, X5, hua3⟩)))
      have hwX : w.heap.size ≤ X := Nat.le_trans (hU4.trans (Up.trans (Up.trans (Up.drew (Up.refl _)) hua1) hua2)).size hX
      have h45 : Up w4 w5 := Up.trans (Up.trans (Up.trans (Up.drew (Up.refl _)) hua1) hua2) hua3
      clear hc0 hc1 hc2 hc3 hc4 hua1 hua2 hua3 hX
      have il5 := il4.up h45
      have HB5 : Hid _ := HB4.out.up h45
      have hU5 : Up w w5 := hU4.trans h45
      have HLy5 : Hid (∀ j, j < i → LayAt w5 H (j * 4) m (F j)) := fun j hj => (HLy4.out j hj).up h45
      replace HNt : Hid (∀ W, Up w5 W → Calls Tryz.prog 20 #[.slice (some ⟨H, 0, none⟩) i cap] W fun e w' => e = .returned (.string NT) ∧ Up W w') := fun W hW => HNt.out W (h45.trans hW)
      clear HB4 HLy4 il4 hU4 h45
      have hs0 : (St.begin m (textsL 2 V)).Ok D 0 := by
        have := St.begin_ok D O (textsL 2 V) (by rw [hDn, hDt]; exact okL_texts V m 2 u HVL.out HVS.out (by omega))
        rw [hDn] at this
        exact this
      have hsum := begin_sum m u V HVL.out (by omega) HVS.out
      generalize St.begin m (textsL 2 V) = s0 at hs0 hsum X5
      have HSh : Hid (Calls Tryz.prog 22 #[.pointer (some ⟨g, 0, none⟩), .pointer (some ⟨X, 0, none⟩), .slice (some ⟨gl, 0, none⟩) m cl] w5 fun e w' => e = .returned (.tuple #[]) ∧ Up w5 w') := by
        have := shares_box g X D 0 0 s0 V gl cl w5 O hs0 X5 (by rw [hDn, hDt, hDq, hDb, hDk]; exact HB5.out) (by rw [hDn, hDt]; exact hsum) il5
        rw [hDn] at this
        exact this
      go_wp2_with fail
      refine Calls.mono HSh.out ?_
      rintro e w6 ⟨rfl, hu6⟩
      have il6 := il5.up hu6
      have HB6 : Hid _ := HB5.out.up hu6
      have hU6 : Up w w6 := hU5.trans hu6
      have X6 := X5.up hu6
      have HLy6 : Hid (∀ j, j < i → LayAt w6 H (j * 4) m (F j)) := fun j hj => (HLy5.out j hj).up hu6
      clear HB5 HLy5 il5 hU5 X5 HSh
      have hc0 := HB6.out.c0
      have hc1 := HB6.out.c1
      have hc2 := HB6.out.c2
      have hc3 := HB6.out.c3
      generalize hPT : (⟨(textsL 2 (playI m u (netL (netOf F i)) V i)).toArray⟩ : ByteArray) = PT at HPl
      have HPT : Hid (_ = PT) := hPT
      clear hPT
      go_wp2_with fail
      go_region_held3 (fun w' => w'.cell? ⟨g, 0, none⟩ = some (.int .i64 (m : Int)) ∧ w'.cell? ⟨g, 1, none⟩ = some (.int .i64 (u : Int)) ∧ w'.cell? ⟨g, 2, none⟩ = some (.int .i64 q') ∧ w'.cell? ⟨g, 3, none⟩ = some (.int .i64 b')) (first | go_keep | exact keepC4 hua3 (by assumption) | exact keepC4 hua2 (by assumption) | exact keepC4 hua1 (by assumption)) ((first | (go_at_call 20; refine Calls.mono (HNt.out _ (Up.drew hu6)) ?_; rintro e wa1 ⟨rfl, hua1⟩) | (go_at_call 21; refine Calls.mono (HTx.out _ gl cl (il6.up (Up.trans (Up.drew (Up.refl _)) hua1))) ?_; rintro e wa2 ⟨rfl, hua2⟩) | (go_at_call 23; refine Calls.mono (HPl.out _) ?_; rintro e w7 ⟨rfl, hua3⟩)))
      have h67 : Up w6 w7 := Up.trans (Up.trans (Up.trans (Up.drew (Up.refl _)) hua1) hua2) hua3
      clear hc0 hc1 hc2 hc3 hua1 hua2 hua3 hu6
      have il7 := il6.up h67
      have HB7 : Hid _ := HB6.out.up h67
      have hU7 : Up w w7 := hU6.trans h67
      have X7 := X6.up h67
      have HLy7 : Hid (∀ j, j < i → LayAt w7 H (j * 4) m (F j)) := fun j hj => (HLy6.out j hj).up h67
      have HDr7 : Hid _ := HDr.out.up hU7
      clear HB6 HLy6 il6 hU6 X6 h67
      have hHX : H ≠ X := by
        obtain ⟨gm, cm, gb, cb, c0, _⟩ := HLy7.out 0 (by omega)
        obtain ⟨gk, ck, H2, cap2, gs2, caps2, HN2, o, capN, gc, cc, gv, cv, v0, v1, v2, h1, _⟩ := X7
        rintro rfl
        have c0 : w7.cell? ⟨H, 0, none⟩ = _ := c0
        rw [h1.c0] at c0
        cases c0
      go_wp2_with fail
      refine (must_calls g _).mono ?_
      rintro e w8 ⟨rfl, rfl⟩
      go_wp2_with fail
      go_loopw [16, 23] (fun sv si wz => ∃ (j gz cz : Nat) (s : St), j ≤ i ∧ si = .int .i64 (j : Int) ∧ sv = .slice (some ⟨gz, 0, none⟩) m cz ∧ IsI wz gz (playI m u D.net V j) ∧ Hid (SessAt wz X D j 0 s ∧ s.Ok D 0 ∧ plusI m s.cl s.sv u = playI m u D.net V j ∧ Mut (fun k => k = X) w8 wz)) (fun _ si _ => i - (intOf si).toNat)
      case atStart => exact ⟨0, gl, cl, s0, Nat.zero_le _, rfl, rfl, il7, ⟨X7, hs0, hsum, Mut.refl _ _⟩⟩
      case round =>
        obtain ⟨j, gz, cz, s, hjK, rfl, rfl, iz, HZ⟩ := hrel
        have HBz : Hid (BoxAt wr g m u q' b' (keyL d.data.toList m)) := HB7.out.mut HZ.out.2.2.2 (X7.far HB7.out)
        have HLz : Hid (∀ o1, o1 < i → LayAt wr H (o1 * 4) m (F o1)) := fun o1 hi => (HLy7.out o1 hi).mut X7 HZ.out.1 HZ.out.2.2.2 hHX
        have HDz : Hid _ := HDr7.out.mut HZ.out.2.2.2 hwX
        have hc5 := HBz.out.c5
        by_cases hj : j < i
        · obtain ⟨gm, cm, gb, cb, c0, c1, c2, c3, im, ib⟩ := HLz.out j hj
          have HP2 : Hid _ := play_next m u HN.out (by omega) (F j) (HOk.out j hj) D.net V j (HDl.out j hj)
          have HPf : Hid _ := playI_facts m u D.net V HVL.out HVS.out (by omega) j
          have HSt : Hid (Calls Tryz.prog 25 #[.pointer (some ⟨g, 0, none⟩), .pointer (some ⟨X, 0, none⟩), .agg #[.bool (F j).bd, .int .i64 ((F j).s : Int), .slice (some ⟨gm, 0, none⟩) (m / 2 * (m / 2)) cm, .slice (some ⟨gb, 0, none⟩) m cb], .slice (some ⟨gz, 0, none⟩) m cz, .slice ds kd cd, .int .i64 (4 * (j : Int))] wr fun e w' => Mut (fun k => k = X) wr w' ∧ ((e = .returned (.bool true) ∧ ∃ s', s'.Ok D 0 ∧ SessAt w' X D (j + 1) 0 s' ∧ plusI m s'.cl s'.sv u = beI m u (F j).bd (F j).s (alI m u (F j).M (F j).B (playI m u D.net V j))) ∨ e = .returned (.bool false))) := by
            have := steps_calls g X D O tu.data.toList HDt.out (F j) (by rw [hDn, hDt]; exact HOk.out j hj) j (by rw [HDN.out]; exact hj) (by rw [hDn]; exact HDl.out j hj) s HZ.out.2.1 (playI m u D.net V j) (by rw [hDn]; exact HPf.out.1) (by rw [hDn, hDt]; exact HPf.out.2) (by rw [hDn, hDt]; exact HZ.out.2.2.1) gm cm gb cb gz cz ds kd cd w.heap.size (4 * j) f hkd (by omega) wr HZ.out.1 (by rw [hDn, hDt, hDq, hDb, hDk]; exact HBz.out) HDz.out hwX iz im ib
            rw [hDn, hDt] at this
            exact this
          have e4 : IntKind.i64.wrap (4 * (j : Int)) = 4 * (j : Int) := IntWalk.i64_in _ (by omega)
          have hj0 : (0 : Int) ≤ (j : Int) := by omega
          have hj1 : (j : Int) < (i : Int) := by omega
          go_wp2_with fail
          refine Calls.mono HSt.out ?_
          rintro e w9 ⟨m9, ⟨rfl, s', hs', X9, hsum'⟩ | rfl⟩
          · have HB9 : Hid _ := HBz.out.mut m9 (HZ.out.1.far HBz.out)
            have HM9 : Hid _ := HZ.out.2.2.2.trans m9
            have hd0 := m9.cell c0 hHX
            have hd1 := m9.cell c1 hHX
            have hd2 := m9.cell c2 hHX
            have hd3 := m9.cell c3 hHX
            have HAp : Hid (∀ W, Up w9 W → Calls Tryz.prog 27 #[.agg #[.bool (F j).bd, .int .i64 ((F j).s : Int), .slice (some ⟨gm, 0, none⟩) (m / 2 * (m / 2)) cm, .slice (some ⟨gb, 0, none⟩) m cb], .agg #[.int .i64 m, .int .i64 u, .int .i64 q', .int .i64 b'], .slice (some ⟨gz, 0, none⟩) m cz] W fun e w' => ∃ gp cp : Nat, e = .returned (.slice (some ⟨gp, 0, none⟩) m cp) ∧ IsI w' gp (alI m u (F j).M (F j).B (playI m u D.net V j)) ∧ Up W w') := fun W hW => applied_row m u q' b' _ _ _ _ _ gm _ cm gb cb gz cz W HN.out (by omega) (by omega) rfl (HOk.out j hj).hM (HOk.out j hj).hB HPf.out.1 (HOk.out j hj).bM (HOk.out j hj).bB HPf.out.2 ((im.step HZ.out.1 X9 m9).up hW) ((ib.step HZ.out.1 X9 m9).up hW) ((iz.step HZ.out.1 X9 m9).up hW)
            have HBe : Hid (∀ W gp cp, IsI W gp (alI m u (F j).M (F j).B (playI m u D.net V j)) → Calls Tryz.prog 26 #[.agg #[.bool (F j).bd, .int .i64 ((F j).s : Int), .slice (some ⟨gm, 0, none⟩) (m / 2 * (m / 2)) cm, .slice (some ⟨gb, 0, none⟩) m cb], .agg #[.int .i64 m, .int .i64 u, .int .i64 q', .int .i64 b'], .slice (some ⟨gp, 0, none⟩) m cp] W fun e w' => ∃ gp cp : Nat, e = .returned (.slice (some ⟨gp, 0, none⟩) m cp) ∧ IsI w' gp (playI m u D.net V (j + 1)) ∧ Up W w') := fun W gp cp hi => by
              rw [HP2.out]
              exact bent_row m u q' b' _ _ _ _ _ gp cp W (HOk.out j hj).hs hm4 hm16 (by omega) (by omega) (alI_length _ _ _ _ _) (alI_small _ _ _ _ _ (by omega)) hi
            have HX9 : Hid (SessAt w9 X D (j + 1) 0 s') := X9
            have HS9 : Hid _ := hs'
            have HZ9 : Hid (plusI m s'.cl s'.sv u = playI m u D.net V (j + 1)) := hsum'.trans HP2.out.symm
            clear c0 c1 c2 c3 im ib iz hc5 HSt X9 hs' hsum' HP2 HPf m9
            have hc0 := HB9.out.c0
            have hc1 := HB9.out.c1
            have hc2 := HB9.out.c2
            have hc3 := HB9.out.c3
            generalize (F j).bd = bd9 at HAp HBe hd0
            generalize ((F j).s : Int) = s9 at HAp HBe hd1
            go_wp2_with fail
            go_region_held3 (fun w' => w'.cell? ⟨g, 0, none⟩ = some (.int .i64 (m : Int)) ∧ w'.cell? ⟨g, 1, none⟩ = some (.int .i64 (u : Int)) ∧ w'.cell? ⟨g, 2, none⟩ = some (.int .i64 q') ∧ w'.cell? ⟨g, 3, none⟩ = some (.int .i64 b') ∧ w'.cell? ⟨H, j * 4, none⟩ = some (.bool bd9) ∧ w'.cell? ⟨H, j * 4 + 1, none⟩ = some (.int .i64 s9) ∧ w'.cell? ⟨H, j * 4 + 2, none⟩ = some (.slice (some ⟨gm, 0, none⟩) (m / 2 * (m / 2)) cm) ∧ w'.cell? ⟨H, j * 4 + 3, none⟩ = some (.slice (some ⟨gb, 0, none⟩) m cb)) (first | go_keep | exact keepC8w hua2 (by assumption) | exact keepC8w hua1 (by assumption)) ((first | (go_at_call 27; refine Calls.mono (HAp.out _ (Up.drew (Up.refl _))) ?_; rintro e wa1 ⟨ga, ca, rfl, ia, hua1⟩) | (go_at_call 26; refine Calls.mono (HBe.out _ ga ca ia) ?_; rintro e w10 ⟨gy, cy, rfl, iy, hua2⟩)))
            have h90 : Up w9 w10 := Up.trans (Up.trans (Up.drew (Up.refl _)) hua1) hua2
            clear hc0 hc1 hc2 hc3 hd0 hd1 hd2 hd3 hua1 hua2 ia
            go_wp2_with fail
            go_roundw
            case rel => exact ⟨j + 1, gy, cy, s', by omega, by go_num, rfl, iy, ⟨SessAt.up HX9.out h90, HS9.out, HZ9.out, HM9.out.trans h90.mut⟩⟩
            case measure => simp [intOf]; omega
          · have HB9 : Hid _ := HBz.out.mut m9 (HZ.out.1.far HBz.out)
            have hU9 : Up w w9 := Below.trans hU7 (Mut.below (HZ.out.2.2.2.trans m9) hU7.size (fun o1 (hk : o1 = X) => by rw [hk]; exact hwX))
            clear c0 c1 c2 c3 im ib iz hc5 HSt m9 HP2 HPf
            have hc5 := HB9.out.c5
            go_wp2_with fail
            go_ret
            exact ⟨rfl, hU9⟩
        · have hj1 : ¬ (j : Int) < (i : Int) := by omega
          have hjE : j = i := by omega
          have HPf : Hid _ := playI_facts m u D.net V HVL.out HVS.out (by omega) j
          have HOu : Hid (Calls Tryz.prog 28 #[.pointer (some ⟨X, 0, none⟩)] wr fun e w' => e = .returned (.tuple #[.string PT, .int .i64 0]) ∧ Up wr w') := by
            have := Output_yes X D j 0 s wr O HZ.out.2.1 (by rw [HDN.out, hjE]; exact Nat.le_refl _) HZ.out.1
            rw [hDn, hDt, HZ.out.2.2.1, hjE, HDe.out, HPT.out] at this
            exact this
          have HSp : Hid (∀ W, Up wr W → Calls Tryz.prog 29 #[.pointer (some ⟨X, 0, none⟩), .string ⟨#[]⟩] W fun e w' => e = .returned (.tuple #[.string ⟨#[]⟩, .int .i64 5]) ∧ w' = W) := fun W hW => Step_end X D j 0 s _ W (by rw [HDN.out, hjE]; exact Nat.le_refl _) (HZ.out.1.up hW)
          have HTz : Hid (∀ W, Up wr W → Calls Tryz.prog 21 #[.slice (some ⟨gz, 0, none⟩) m cz] W fun e w' => e = .returned (.string PT) ∧ Up W w') := fun W hW => by
            have := keepText_calls m (playI m u D.net V j) gz cz W HPf.out.1 (by omega) (fun o1 hi => by have := HPf.out.2 o1 hi; omega) (iz.up hW)
            rw [hjE, HDe.out, HPT.out] at this
            exact this
          have hUz : Up w wr := Below.trans hU7 (Mut.below HZ.out.2.2.2 hU7.size (fun o1 (hk : o1 = X) => by rw [hk]; exact hwX))
          clear iz HPf
          go_wp2_with fail
          refine Calls.mono HOu.out ?_
          rintro e wo ⟨rfl, huo⟩
          go_wp2_with fail
          refine Calls.mono (HSp.out _ huo) ?_
          rintro e wp ⟨rfl, rfl⟩
          go_wp2_with fail
          refine Calls.mono (HTz.out _ huo) ?_
          rintro e wq ⟨rfl, huq⟩
          go_wp2_with fail
          go_ret
          exact ⟨rfl, hUz.trans (huo.trans huq)⟩

end Go.Proofs.YtcjhgbljhpflfabGreat
