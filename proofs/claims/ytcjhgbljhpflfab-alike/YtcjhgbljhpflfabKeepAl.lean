/-
  Walks: the statement Alike.
-/
import Derived.Test.YtcjhgbljhpflfabKeepWk
import Derived.Test.YtcjhgbljhpflfabKeepBy
import Derived.Test.YtcjhgbljhpflfabKeepLi
import Derived.Test.YtcjhgbljhpflfabKeepE
namespace Go.Proofs.Ytcjhgbljhpflfab
open Go.RowKit
set_option linter.unusedVariables false
set_option maxRecDepth 100000

theorem far4 {W : World} {G g o : Nat} {x0 x1 x2 x3 : Value} (h : G ≠ g) : ((((W.setCell ⟨G, 0, none⟩ x0).setCell ⟨G, 1, none⟩ x1).setCell ⟨G, 2, none⟩ x2).setCell ⟨G, 3, none⟩ x3).cell? ⟨g, o, none⟩ = W.cell? ⟨g, o, none⟩ := (far_set h).trans ((far_set h).trans ((far_set h).trans (far_set h)))

theorem same4 {W : World} {G : Nat} {x0 x1 x2 x3 u0 u1 u2 u3 : Value} (n0 : W.cell? ⟨G, 0, none⟩ = some u0) (n1 : W.cell? ⟨G, 1, none⟩ = some u1) (n2 : W.cell? ⟨G, 2, none⟩ = some u2) (n3 : W.cell? ⟨G, 3, none⟩ = some u3) :
    ((((W.setCell ⟨G, 0, none⟩ x0).setCell ⟨G, 1, none⟩ x1).setCell ⟨G, 2, none⟩ x2).setCell ⟨G, 3, none⟩ x3).cell? ⟨G, 0, none⟩ = some x0 ∧ ((((W.setCell ⟨G, 0, none⟩ x0).setCell ⟨G, 1, none⟩ x1).setCell ⟨G, 2, none⟩ x2).setCell ⟨G, 3, none⟩ x3).cell? ⟨G, 1, none⟩ = some x1 ∧ ((((W.setCell ⟨G, 0, none⟩ x0).setCell ⟨G, 1, none⟩ x1).setCell ⟨G, 2, none⟩ x2).setCell ⟨G, 3, none⟩ x3).cell? ⟨G, 2, none⟩ = some x2 ∧ ((((W.setCell ⟨G, 0, none⟩ x0).setCell ⟨G, 1, none⟩ x1).setCell ⟨G, 2, none⟩ x2).setCell ⟨G, 3, none⟩ x3).cell? ⟨G, 3, none⟩ = some x3 := by
  have m1 := (else_set (W := W) (r := G) (o := 0) (o' := 1) (x := x0) (by decide)).trans n1
  have m2 := (else_set (W := W.setCell ⟨G, 0, none⟩ x0) (r := G) (o := 1) (o' := 2) (x := x1) (by decide)).trans ((else_set (by decide)).trans n2)
  have m3 := (else_set (W := (W.setCell ⟨G, 0, none⟩ x0).setCell ⟨G, 1, none⟩ x1) (r := G) (o := 2) (o' := 3) (x := x2) (by decide)).trans ((else_set (by decide)).trans ((else_set (by decide)).trans n3))
  exact ⟨(else_set (by decide)).trans ((else_set (by decide)).trans ((else_set (by decide)).trans (World.cell?_setCell_same _ _ _ n0))), (else_set (by decide)).trans ((else_set (by decide)).trans (World.cell?_setCell_same _ _ _ m1)), (else_set (by decide)).trans (World.cell?_setCell_same _ _ _ m2), World.cell?_setCell_same _ _ _ m3⟩

theorem keepC8 {p0 p1 p2 p3 p4 p5 p6 p7 : Addr} {u0 u1 u2 u3 u4 u5 u6 u7 : Value} {W W' : World} (hu : Up W W') (hS : W.cell? p0 = some u0 ∧ W.cell? p1 = some u1 ∧ W.cell? p2 = some u2 ∧ W.cell? p3 = some u3 ∧ W.cell? p4 = some u4 ∧ W.cell? p5 = some u5 ∧ W.cell? p6 = some u6 ∧ W.cell? p7 = some u7) :
    W'.cell? p0 = some u0 ∧ W'.cell? p1 = some u1 ∧ W'.cell? p2 = some u2 ∧ W'.cell? p3 = some u3 ∧ W'.cell? p4 = some u4 ∧ W'.cell? p5 = some u5 ∧ W'.cell? p6 = some u6 ∧ W'.cell? p7 = some u7 :=
  ⟨keepC hu hS.1, keepC hu hS.2.1, keepC hu hS.2.2.1, keepC hu hS.2.2.2.1, keepC hu hS.2.2.2.2.1, keepC hu hS.2.2.2.2.2.1, keepC hu hS.2.2.2.2.2.2.1, keepC hu hS.2.2.2.2.2.2.2⟩


theorem both_is (n t : Nat) (q b : Int) (xs ys : List Int) (ga gb ca cb : Nat) (w : World) (hn4 : 4 ≤ n) (hn : n ≤ 16) (ht : 1 ≤ t) (ht2 : t ≤ 1021) (hla : xs.length = n) (hlb : ys.length = n) (sa : ∀ i, i < n → 0 ≤ xs.getD i 0 ∧ xs.getD i 0 < (t : Int)) (sb : ∀ i, i < n → 0 ≤ ys.getD i 0 ∧ ys.getD i 0 < (t : Int)) (ia : IsI w ga xs) (ib : IsI w gb ys) :
    Calls Try.prog 22 #[.agg #[.int .i64 n, .int .i64 t, .int .i64 q, .int .i64 b], .slice (some ⟨ga, 0, none⟩) n ca, .slice (some ⟨gb, 0, none⟩) n cb, .int .i64 1] w fun e w' => ∃ gp cp : Nat, e = .returned (.slice (some ⟨gp, 0, none⟩) n cp) ∧ IsI w' gp (plusI n xs ys t) ∧ Up w w' := by
  refine (both_calls n t q b xs ys ga gb ca cb w hn ht ht2 hla hlb (bnd_small xs n t hla (by omega) (by omega) sa) (bnd_small ys n t hlb (by omega) (by omega) sb) ia ib).mono ?_
  rintro e w' ⟨v, rfl, ho, hu⟩
  obtain ⟨gp, cp, rfl, _, ip⟩ := ho.is (ne_nil_of_length (plusI_length _ _ _ _) (by omega))
  rw [plusI_length]
  exact ⟨gp, cp, rfl, ip, hu⟩

theorem less_is (n t : Nat) (q b : Int) (xs ys : List Int) (ga gb ca cb : Nat) (w : World) (hn4 : 4 ≤ n) (hn : n ≤ 16) (ht : 1 ≤ t) (ht2 : t ≤ 1021) (hla : xs.length = n) (hlb : ys.length = n) (sa : ∀ i, i < n → 0 ≤ xs.getD i 0 ∧ xs.getD i 0 < (t : Int)) (sb : ∀ i, i < n → 0 ≤ ys.getD i 0 ∧ ys.getD i 0 < (t : Int)) (ia : IsI w ga xs) (ib : IsI w gb ys) :
    Calls Try.prog 22 #[.agg #[.int .i64 n, .int .i64 t, .int .i64 q, .int .i64 b], .slice (some ⟨ga, 0, none⟩) n ca, .slice (some ⟨gb, 0, none⟩) n cb, .int .i64 (-1)] w fun e w' => ∃ gp cp : Nat, e = .returned (.slice (some ⟨gp, 0, none⟩) n cp) ∧ IsI w' gp (lessI n xs ys t) ∧ Up w w' := by
  refine (less_calls n t q b xs ys ga gb ca cb w hn ht ht2 hla hlb (bnd_small xs n t hla (by omega) (by omega) sa) (bnd_small ys n t hlb (by omega) (by omega) sb) ia ib).mono ?_
  rintro e w' ⟨v, rfl, ho, hu⟩
  obtain ⟨gp, cp, rfl, _, ip⟩ := ho.is (ne_nil_of_length (lessI_length _ _ _ _) (by omega))
  rw [lessI_length]
  exact ⟨gp, cp, rfl, ip, hu⟩

theorem applied_is (n t : Nat) (q b : Int) (bd : Bool) (sh : Int) (M B vs : List Int) (gm dm cm gb cb gv cv : Nat) (w : World) (hn : n = 4 ∨ n = 8 ∨ n = 16) (ht : 0 < t) (ht2 : t ≤ 1021) (hdm : dm = n / 2 * (n / 2)) (hM : M.length = dm) (hB : B.length = n) (hl : vs.length = n)
    (bM : ∀ i, i < dm → 0 ≤ M.getD i 0 ∧ M.getD i 0 < (t : Int)) (bB : ∀ i, i < n → 0 ≤ B.getD i 0 ∧ B.getD i 0 < (t : Int)) (bv : ∀ i, i < n → 0 ≤ vs.getD i 0 ∧ vs.getD i 0 < (t : Int)) (im : IsI w gm M) (ib : IsI w gb B) (iv : IsI w gv vs) :
    Calls Try.prog 21 #[.agg #[.bool bd, .int .i64 sh, .slice (some ⟨gm, 0, none⟩) dm cm, .slice (some ⟨gb, 0, none⟩) n cb], .agg #[.int .i64 n, .int .i64 t, .int .i64 q, .int .i64 b], .slice (some ⟨gv, 0, none⟩) n cv] w fun e w' => ∃ gp cp : Nat, e = .returned (.slice (some ⟨gp, 0, none⟩) n cp) ∧ IsI w' gp (alI n t M B vs) ∧ Up w w' := by
  refine (applied_calls n t q b bd sh M B vs gm dm cm gb cb gv cv w hn ht ht2 hdm hM hB hl bM bB bv im ib iv).mono ?_
  rintro e w' ⟨v, rfl, ho, hu⟩
  obtain ⟨gp, cp, rfl, _, ip⟩ := ho.is (ne_nil_of_length (alI_length _ _ _ _ _) (by omega))
  rw [alI_length]
  exact ⟨gp, cp, rfl, ip, hu⟩

set_option maxHeartbeats 32000000 in
theorem Alike_calls (n t q b : Int) (d : ByteArray) (bd : Bool) (sh : Int) (lm lb v y s k x tu : ByteArray) (w : World) (hd : d.size ≤ maxLen) (hlm : lm.size ≤ maxLen) (hlb : lb.size ≤ maxLen) (hv : v.size ≤ maxLen) (hy : y.size ≤ maxLen) (hs : s.size ≤ maxLen) (hk : k.size ≤ maxLen) (hx : x.size ≤ maxLen) (htu : tu.size ≤ maxLen) (hn : -9223372036854775808 ≤ n) (hn2 : n ≤ 9223372036854775807) (hsh : -9223372036854775808 ≤ sh) (hsh2 : sh ≤ 9223372036854775807) :
    Calls Try.prog 4 #[.agg #[.int .i64 n, .int .i64 t, .int .i64 q, .int .i64 b, .string d], .agg #[.bool bd, .int .i64 sh, .string lm, .string lb], .string v, .string y, .string s, .string k, .string x, .string tu] w fun e w' => e = .returned (.bool true) ∧ Up w w' := by
  go_enter Try.func4, Try.ntmps4
  go_wp2_with fail
  refine (begin_calls n t q b d _ hd hn hn2).mono ?_
  rintro e w1 ⟨g, m, u, q', b', p, rfl, hB1, hu1⟩
  have P : Hid _ := p
  obtain ⟨hd1, hd2, hd3⟩ := p.nt.half
  have hm16 : m ≤ 16 := by omega
  have hm4 : 4 ≤ m := by omega
  clear hd1 hd2 hd3
  have ht := p.nt.t3
  have ht2 := p.nt.ht
  have hq1 := p.q1
  have hq2 := p.q2
  have hb1 : 1 ≤ b' := (goodB_NT p.good).2.2.2.2.2.1
  have hb2 : b' ≤ 8 := (goodB_NT p.good).2.2.2.2.2.2.1
  obtain ⟨L, hL⟩ := dig_ex q' b' hq1 hq2 hb1
  have HLd : Hid _ := hL
  have HN : Hid _ := p.nt.hn
  have HBc : Hid _ := hB1
  have HSec : Hid _ := sec_key d.data.toList m
  have HTK : Hid (∀ W, Calls Try.prog 10 #[.agg #[.int .i64 m, .int .i64 u, .int .i64 q', .int .i64 b'], .string ⟨(keyL d.data.toList m).toArray⟩, .string tu] W fun e w' => e = .returned (.tuple #[.string ⟨(tkL m (secI (keyL d.data.toList m) m) q' b' tu.data.toList L).toArray⟩, .int .i64 0]) ∧ Up W w') := fun W => by
    have := TurnKey_ok m L u q' b' ⟨(keyL d.data.toList m).toArray⟩ tu W (key_size _ _ (by omega)) htu HN.out hq1 hq2 hb1 hb2 HLd.out P.out.good (by rw [bytes_back]; exact HSec.out)
    rw [bytes_back] at this
    exact this
  obtain ⟨TK, hTK⟩ : ∃ T, T = (⟨(tkL m (secI (keyL d.data.toList m) m) q' b' tu.data.toList L).toArray⟩ : ByteArray) := ⟨_, rfl⟩
  rw [← hTK] at HTK
  have HTe : Hid _ := hTK
  clear hTK
  have hUw : Up w w1 := (((Up.refl _).alloc _).alloc _).trans hu1
  have hY0 : w1.cell? ⟨w.heap.size + 1, 0, none⟩ = some (.bool bd) := keepC hu1 (by simp [go_sem])
  have hY1 : w1.cell? ⟨w.heap.size + 1, 1, none⟩ = some (.int .i64 sh) := keepC hu1 (by simp [go_sem])
  have hY2 : w1.cell? ⟨w.heap.size + 1, 2, none⟩ = some (.string lm) := keepC hu1 (by simp [go_sem])
  have hY3 : w1.cell? ⟨w.heap.size + 1, 3, none⟩ = some (.string lb) := keepC hu1 (by simp [go_sem])
  have hc0 := hB1.c0
  have hc1 := hB1.c1
  have hc2 := hB1.c2
  have hc3 := hB1.c3
  have hne1 : w1.heap.size ≠ w.heap.size + 1 := by have h : w.heap.size + 1 < w1.heap.size := World.block_lt_of_cell? w1 ⟨w.heap.size + 1, 0, none⟩ hY0; omega
  have hne2 : w1.heap.size ≠ g := by have h : g < w1.heap.size := World.block_lt_of_cell? w1 ⟨g, 0, none⟩ hc0; omega
  clear p hB1 hL hu1
  go_wp2_with fail
  refine wp_region_noPanic ?_
  refine wp_region_held_drew (S := (fun w' => w'.cell? ⟨w.heap.size + 1, 0, none⟩ = some (.bool bd) ∧ w'.cell? ⟨w.heap.size + 1, 1, none⟩ = some (.int .i64 sh) ∧ w'.cell? ⟨w.heap.size + 1, 2, none⟩ = some (.string lm) ∧ w'.cell? ⟨w.heap.size + 1, 3, none⟩ = some (.string lb) ∧ w'.cell? ⟨g, 0, none⟩ = some (.int .i64 (m : Int)) ∧ w'.cell? ⟨g, 1, none⟩ = some (.int .i64 (u : Int)) ∧ w'.cell? ⟨g, 2, none⟩ = some (.int .i64 q') ∧ w'.cell? ⟨g, 3, none⟩ = some (.int .i64 b'))) (by kernel_rfl) ?_ (fun hHeld => ?_)
  · exact ⟨hY0, hY1, hY2, hY3, hc0, hc1, hc2, hc3⟩
  refine wpAnyH_take (i := 0) (oi := { dst := some 35, op := Op.load 42 (Operand.tmp 9), type := 42, pos := "nets.go:106", after := #[], guard := none }) (v := ?_) rfl (by kernel_rfl) (by kernel_rfl) (by kernel_rfl) (fun _ _ _ h => h) (Or.inl ⟨by rfl, ?_⟩) (by assumption) ?_
  rotate_left
  · (intro w hSw; (try dsimp only at hSw); go_simp; try with_reducible rfl)
  try simp only [Act.put, List.setIfInBounds_toArray, List.set_cons_zero, List.set_cons_succ]
  refine wpAnyH_take (i := 1) (oi := { dst := some 36, op := Op.move (Operand.tmp 17), type := 27, pos := "nets.go:106", after := #[], guard := none }) (v := ?_) rfl (by kernel_rfl) (by kernel_rfl) (by kernel_rfl) (fun _ _ _ h => h) (Or.inl ⟨by rfl, ?_⟩) (by assumption) ?_
  rotate_left
  · (intro w hSw; (try dsimp only at hSw); go_simp; try with_reducible rfl)
  try simp only [Act.put, List.setIfInBounds_toArray, List.set_cons_zero, List.set_cons_succ]
  refine wpAnyH_take (i := 2) (oi := { dst := some 37, op := Op.nilCheck (Operand.tmp 36), type := 0, pos := "nets.go:106", after := #[{ on := 1, ground := Ground.data }], guard := none }) (v := ?_) rfl (by kernel_rfl) (by kernel_rfl) (by kernel_rfl) (fun _ _ _ h => h) (Or.inl ⟨by rfl, ?_⟩) (by assumption) ?_
  rotate_left
  · (intro w hSw; (try dsimp only at hSw); go_simp; try with_reducible rfl)
  try simp only [Act.put, List.setIfInBounds_toArray, List.set_cons_zero, List.set_cons_succ]
  refine wpAnyH_take (i := 3) (oi := { dst := some 38, op := Op.fieldAddr 31 (Operand.tmp 37) 0, type := 0, pos := "nets.go:106", after := #[{ on := 2, ground := Ground.data }], guard := none }) (v := ?_) rfl (by kernel_rfl) (by kernel_rfl) (by kernel_rfl) (fun _ _ _ h => h) (Or.inl ⟨by rfl, ?_⟩) (by assumption) ?_
  rotate_left
  · (intro w hSw; (try dsimp only at hSw); go_simp; try with_reducible rfl)
  try simp only [Act.put, List.setIfInBounds_toArray, List.set_cons_zero, List.set_cons_succ]
  refine wpAnyH_take (i := 4) (oi := { dst := some 39, op := Op.load 23 (Operand.tmp 38), type := 23, pos := "nets.go:106", after := #[{ on := 3, ground := Ground.data }], guard := none }) (v := ?_) rfl (by kernel_rfl) (by kernel_rfl) (by kernel_rfl) (fun _ _ _ h => h) (Or.inl ⟨by rfl, ?_⟩) (by assumption) ?_
  rotate_left
  · (intro w hSw; (try dsimp only at hSw); go_simp; try with_reducible rfl)
  try simp only [Act.put, List.setIfInBounds_toArray, List.set_cons_zero, List.set_cons_succ]
  refine wpAnyH_ready (rs := [5, 6]) (by kernel_rfl) (by simp) ?_
  refine AllReadyH.cons (o := { dst := some 40, op := Op.call { callee := Callee.value (Operand.func 20), args := #[Operand.tmp 35, Operand.tmp 39], argTypes := #[42, 23] }, type := 44, pos := "nets.go:106", after := #[{ on := 0, ground := Ground.data }, { on := 4, ground := Ground.data }], guard := none }) rfl (fun K hK => ?_) ?_
  · go_simp
    refine Calls.mono (worked_calls m u q' b' bd sh lm lb _ hlm hlb HN.out (by omega) (by omega) hsh hsh2) ?_
    rintro r w2 ⟨s2, gm, cm, gb, cb, hs2, rfl, hgm, hgb, iM, iB, hu2⟩
    obtain ⟨D, hD⟩ : ∃ D, D = m / 2 * (m / 2) := ⟨_, rfl⟩
    rw [← hD] at iM ⊢
    have HD : Hid _ := hD
    clear hD
    have hu12 : Up w1 w2 := Up.trans (Up.drew (Up.refl _)) hu2
    go_wp2_with fail
    refine hK.out _ _ ?_ (fun hHeld2 => ?_)
    · exact keepC8 hu2 hHeld
    clear hHeld
    have hHeld := hHeld2
    clear hHeld2
    clear hK K
    try simp only [Act.put, List.setIfInBounds_toArray, List.set_cons_zero, List.set_cons_succ]
    refine wpAnyH_ready (rs := [6]) (by kernel_rfl) (by simp) ?_
    refine AllReadyH.cons (o := { dst := some 18, op := Op.alloc 44, type := 0, pos := "nets.go:106", after := #[], guard := none }) rfl (fun K hK => ?_) ?_
    · go_simp
      refine hK.out _ _ ?_ (fun hHeld2 => ?_)
      · exact keepC8 (Up.alloc (Up.refl _) _) hHeld
      clear hHeld
      have hHeld := hHeld2
      clear hHeld2
      clear hK K
      try simp only [Act.put, List.setIfInBounds_toArray, List.set_cons_zero, List.set_cons_succ]
      refine wpAnyH_ready (rs := [7]) (by kernel_rfl) (by simp) ?_
      refine AllReadyH.cons (o := { dst := none, op := Op.store 44 (Operand.tmp 18) (Operand.tmp 40), type := 0, pos := "nets.go:106", after := #[{ on := 6, ground := Ground.data }, { on := 5, ground := Ground.data }, { on := 5, ground := Ground.chain }, { on := 0, ground := Ground.phase }, { on := 1, ground := Ground.phase }, { on := 2, ground := Ground.phase }, { on := 3, ground := Ground.phase }, { on := 4, ground := Ground.phase }, { on := 5, ground := Ground.phase }, { on := 6, ground := Ground.phase }], guard := none }) rfl (fun K hK => ?_) ?_
      · go_simp
        refine hK.out _ _ ?_ (fun hHeld2 => ?_)
        · exact keepC8 (Up.alloc hu12 _) ⟨hY0, hY1, hY2, hY3, hc0, hc1, hc2, hc3⟩
        clear hHeld
        have hHeld := hHeld2
        clear hHeld2
        clear hK K
        try simp only [Act.put, List.setIfInBounds_toArray, List.set_cons_zero, List.set_cons_succ]
        refine wpAnyH_done (by kernel_rfl) ?_ _
        refine NoPanic.normal ?_
        have hL0 : (w2.alloc (.cells #[.bool bd, .int .i64 (s2 : Int), .slice (some ⟨gm, 0, none⟩) D cm, .slice (some ⟨gb, 0, none⟩) m cb] 44)).cell? ⟨w2.heap.size, 0, none⟩ = some (.bool bd) := by simp
        have hL1 : (w2.alloc (.cells #[.bool bd, .int .i64 (s2 : Int), .slice (some ⟨gm, 0, none⟩) D cm, .slice (some ⟨gb, 0, none⟩) m cb] 44)).cell? ⟨w2.heap.size, 1, none⟩ = some (.int .i64 (s2 : Int)) := by simp
        have hL2 : (w2.alloc (.cells #[.bool bd, .int .i64 (s2 : Int), .slice (some ⟨gm, 0, none⟩) D cm, .slice (some ⟨gb, 0, none⟩) m cb] 44)).cell? ⟨w2.heap.size, 2, none⟩ = some (.slice (some ⟨gm, 0, none⟩) D cm) := by simp
        have hL3 : (w2.alloc (.cells #[.bool bd, .int .i64 (s2 : Int), .slice (some ⟨gm, 0, none⟩) D cm, .slice (some ⟨gb, 0, none⟩) m cb] 44)).cell? ⟨w2.heap.size, 3, none⟩ = some (.slice (some ⟨gb, 0, none⟩) m cb) := by simp
        replace iM := iM.up ((Up.refl w2).alloc (.cells #[.bool bd, .int .i64 (s2 : Int), .slice (some ⟨gm, 0, none⟩) D cm, .slice (some ⟨gb, 0, none⟩) m cb] 44))
        replace iB := iB.up ((Up.refl w2).alloc (.cells #[.bool bd, .int .i64 (s2 : Int), .slice (some ⟨gm, 0, none⟩) D cm, .slice (some ⟨gb, 0, none⟩) m cb] 44))
        have hu1W : Up w1 (w2.alloc (.cells #[.bool bd, .int .i64 (s2 : Int), .slice (some ⟨gm, 0, none⟩) D cm, .slice (some ⟨gb, 0, none⟩) m cb] 44)) := hu12.alloc _
        generalize (w2.alloc (.cells #[.bool bd, .int .i64 (s2 : Int), .slice (some ⟨gm, 0, none⟩) D cm, .slice (some ⟨gb, 0, none⟩) m cb] 44)) = W2 at hL0 hL1 hL2 hL3 iM iB hu1W ⊢
        generalize w2.heap.size = G at hL0 hL1 hL2 hL3 ⊢
        skip
        clear hHeld hu2 hu12 hgm hgb hne1 hne2 hY0 hY1 hY2 hY3 hc0 hc1 hc2 hc3
        skip
        replace HBc : Hid _ := HBc.out.up hu1W
        replace hUw := hUw.trans hu1W
        clear hu1W
        have HML : Hid _ := valsI_length D u lm.data.toList
        have HMS : Hid _ := valsI_small D u lm.data.toList (by omega)
        have HBL : Hid _ := valsI_length m u lb.data.toList
        have HBS : Hid _ := valsI_small m u lb.data.toList (by omega)
        generalize valsI D u lm.data.toList = MM at iM HML HMS
        generalize valsI m u lb.data.toList = BB at iB HBL HBS
        have hc0 := HBc.out.c0
        have hc1 := HBc.out.c1
        have hc2 := HBc.out.c2
        have hc3 := HBc.out.c3
        have HVL1 : Hid _ := valsI_length m u v.data.toList
        have HVS1 : Hid _ := valsI_small m u v.data.toList (by omega)
        go_wp2_with fail
        refine (values_calls m u q' b' v _ hv (by omega) (by omega) (by omega)).mono ?_
        rintro e wv1 ⟨vv, rfl, hoo, huu⟩
        obtain ⟨gl1, cl1, rfl, _, il1⟩ := hoo.is (ne_nil_of_length (valsI_length _ _ _) (by omega))
        rw [valsI_length]
        generalize valsI m u v.data.toList = V1 at il1 HVL1 HVS1
        clear hoo
        clear hc0 hc1 hc2 hc3
        replace HBc : Hid _ := HBc.out.up huu
        replace hUw := hUw.trans huu
        replace hL0 := keepC huu hL0
        replace hL1 := keepC huu hL1
        replace hL2 := keepC huu hL2
        replace hL3 := keepC huu hL3
        replace iM := iM.up huu
        replace iB := iB.up huu
        clear huu
        have hc0 := HBc.out.c0
        have hc1 := HBc.out.c1
        have hc2 := HBc.out.c2
        have hc3 := HBc.out.c3
        have HVL2 : Hid _ := valsI_length m u y.data.toList
        have HVS2 : Hid _ := valsI_small m u y.data.toList (by omega)
        go_wp2_with fail
        refine (values_calls m u q' b' y _ hy (by omega) (by omega) (by omega)).mono ?_
        rintro e wv2 ⟨vv, rfl, hoo, huu⟩
        obtain ⟨gl2, cl2, rfl, _, il2⟩ := hoo.is (ne_nil_of_length (valsI_length _ _ _) (by omega))
        rw [valsI_length]
        generalize valsI m u y.data.toList = V2 at il2 HVL2 HVS2
        clear hoo
        clear hc0 hc1 hc2 hc3
        replace HBc : Hid _ := HBc.out.up huu
        replace hUw := hUw.trans huu
        replace hL0 := keepC huu hL0
        replace hL1 := keepC huu hL1
        replace hL2 := keepC huu hL2
        replace hL3 := keepC huu hL3
        replace iM := iM.up huu
        replace iB := iB.up huu
        replace il1 := il1.up huu
        clear huu
        have hc0 := HBc.out.c0
        have hc1 := HBc.out.c1
        have hc2 := HBc.out.c2
        have hc3 := HBc.out.c3
        have HVL3 : Hid _ := valsI_length m u s.data.toList
        have HVS3 : Hid _ := valsI_small m u s.data.toList (by omega)
        go_wp2_with fail
        refine (values_calls m u q' b' s _ hs (by omega) (by omega) (by omega)).mono ?_
        rintro e wv3 ⟨vv, rfl, hoo, huu⟩
        obtain ⟨gl3, cl3, rfl, _, il3⟩ := hoo.is (ne_nil_of_length (valsI_length _ _ _) (by omega))
        rw [valsI_length]
        generalize valsI m u s.data.toList = V3 at il3 HVL3 HVS3
        clear hoo
        clear hc0 hc1 hc2 hc3
        replace HBc : Hid _ := HBc.out.up huu
        replace hUw := hUw.trans huu
        replace hL0 := keepC huu hL0
        replace hL1 := keepC huu hL1
        replace hL2 := keepC huu hL2
        replace hL3 := keepC huu hL3
        replace iM := iM.up huu
        replace iB := iB.up huu
        replace il1 := il1.up huu
        replace il2 := il2.up huu
        clear huu
        have hc0 := HBc.out.c0
        have hc1 := HBc.out.c1
        have hc2 := HBc.out.c2
        have hc3 := HBc.out.c3
        have HVL4 : Hid _ := valsI_length m u k.data.toList
        have HVS4 : Hid _ := valsI_small m u k.data.toList (by omega)
        go_wp2_with fail
        refine (values_calls m u q' b' k _ hk (by omega) (by omega) (by omega)).mono ?_
        rintro e wv4 ⟨vv, rfl, hoo, huu⟩
        obtain ⟨gl4, cl4, rfl, _, il4⟩ := hoo.is (ne_nil_of_length (valsI_length _ _ _) (by omega))
        rw [valsI_length]
        generalize valsI m u k.data.toList = V4 at il4 HVL4 HVS4
        clear hoo
        clear hc0 hc1 hc2 hc3
        replace HBc : Hid _ := HBc.out.up huu
        replace hUw := hUw.trans huu
        replace hL0 := keepC huu hL0
        replace hL1 := keepC huu hL1
        replace hL2 := keepC huu hL2
        replace hL3 := keepC huu hL3
        replace iM := iM.up huu
        replace iB := iB.up huu
        replace il1 := il1.up huu
        replace il2 := il2.up huu
        replace il3 := il3.up huu
        clear huu
        have hc0 := HBc.out.c0
        have hc1 := HBc.out.c1
        have hc2 := HBc.out.c2
        have hc3 := HBc.out.c3
        have hc4 := HBc.out.c4
        generalize hKe : (⟨(keyL d.data.toList m).toArray⟩ : ByteArray) = KK at HTK hc4
        clear hKe
        go_wp2_with fail
        go_region_held3 (fun w' => w'.cell? ⟨g, 0, none⟩ = some (.int .i64 (m : Int)) ∧ w'.cell? ⟨g, 1, none⟩ = some (.int .i64 (u : Int)) ∧ w'.cell? ⟨g, 2, none⟩ = some (.int .i64 q') ∧ w'.cell? ⟨g, 3, none⟩ = some (.int .i64 b') ∧ w'.cell? ⟨g, 4, none⟩ = some (.string KK)) (first | go_keep | exact keepC5 hu4 (by assumption)) ((first | (go_at_call 10; refine Calls.mono (HTK.out _) ?_; rintro e w4 ⟨rfl, hu4⟩)))
        have huu : Up wv4 w4 := Up.trans (Up.drew (Up.refl _)) hu4
        clear hc0 hc1 hc2 hc3 hc4 hu4
        replace HBc : Hid _ := HBc.out.up huu
        replace hUw := hUw.trans huu
        replace hL0 := keepC huu hL0
        replace hL1 := keepC huu hL1
        replace hL2 := keepC huu hL2
        replace hL3 := keepC huu hL3
        replace iM := iM.up huu
        replace iB := iB.up huu
        replace il1 := il1.up huu
        replace il2 := il2.up huu
        replace il3 := il3.up huu
        replace il4 := il4.up huu
        clear huu
        go_wp2_with fail
        refine (must_calls g _).mono ?_
        rintro e w5 ⟨rfl, rfl⟩
        have hc0 := HBc.out.c0
        have hc1 := HBc.out.c1
        have hc2 := HBc.out.c2
        have hc3 := HBc.out.c3
        go_wp2_with fail
        go_region_held3 (fun w' => w'.cell? ⟨g, 0, none⟩ = some (.int .i64 (m : Int)) ∧ w'.cell? ⟨g, 1, none⟩ = some (.int .i64 (u : Int)) ∧ w'.cell? ⟨g, 2, none⟩ = some (.int .i64 q') ∧ w'.cell? ⟨g, 3, none⟩ = some (.int .i64 b') ∧ w'.cell? ⟨G, 0, none⟩ = some (.bool bd) ∧ w'.cell? ⟨G, 1, none⟩ = some (.int .i64 (s2 : Int)) ∧ w'.cell? ⟨G, 2, none⟩ = some (.slice (some ⟨gm, 0, none⟩) D cm) ∧ w'.cell? ⟨G, 3, none⟩ = some (.slice (some ⟨gb, 0, none⟩) m cb)) (first | go_keep | exact keepC8 hua2 (by assumption) | exact keepC8 hua1 (by assumption)) ((first | (go_at_call 21; refine Calls.mono (applied_is m u q' b' bd s2 MM BB (plusI m V1 V3 u) gm D cm gb cb gp cp _ HN.out (by omega) (by omega) HD.out HML.out HBL.out (plusI_length _ _ _ _) HMS.out HBS.out (plusI_small _ _ _ _ (by omega)) (iM.up (Up.trans (Up.drew (Up.refl _)) hua1)) (iB.up (Up.trans (Up.drew (Up.refl _)) hua1)) ip) ?_; rintro e w6 ⟨gFX, cFX, rfl, iFX, hua2⟩) | (go_at_call 22; refine Calls.mono (both_is m u q' b' V1 V3 gl1 gl3 cl1 cl3 _ hm4 hm16 (by omega) (by omega) HVL1.out HVL3.out HVS1.out HVS3.out (il1.up (Up.drew (Up.refl _))) (il3.up (Up.drew (Up.refl _)))) ?_; rintro e wa1 ⟨gp, cp, rfl, ip, hua1⟩)))
        have huu : Up w5 w6 := Up.trans (Up.trans (Up.drew (Up.refl _)) hua1) hua2
        clear hua1 hua2 ip
        clear hc0 hc1 hc2 hc3
        replace HBc : Hid _ := HBc.out.up huu
        replace hUw := hUw.trans huu
        replace hL0 := keepC huu hL0
        replace hL1 := keepC huu hL1
        replace hL2 := keepC huu hL2
        replace hL3 := keepC huu hL3
        replace iM := iM.up huu
        replace iB := iB.up huu
        replace il1 := il1.up huu
        replace il2 := il2.up huu
        replace il3 := il3.up huu
        replace il4 := il4.up huu
        clear huu
        obtain ⟨FX, hFX⟩ : ∃ F, F = alI m u MM BB (plusI m V1 V3 u) := ⟨_, rfl⟩
        rw [← hFX] at iFX
        have HFXL : Hid (FX.length = m) := show _ = _ by rw [hFX]; exact alI_length _ _ _ _ _
        have HFXS : Hid (∀ i, i < m → 0 ≤ FX.getD i 0 ∧ FX.getD i 0 < (u : Int)) := by rw [hFX]; exact alI_small _ _ _ _ _ (by omega)
        have HFX : Hid _ := hFX
        clear hFX
        have hc0 := HBc.out.c0
        have hc1 := HBc.out.c1
        have hc2 := HBc.out.c2
        have hc3 := HBc.out.c3
        go_wp2_with fail
        go_region_held3 (fun w' => w'.cell? ⟨g, 0, none⟩ = some (.int .i64 (m : Int)) ∧ w'.cell? ⟨g, 1, none⟩ = some (.int .i64 (u : Int)) ∧ w'.cell? ⟨g, 2, none⟩ = some (.int .i64 q') ∧ w'.cell? ⟨g, 3, none⟩ = some (.int .i64 b') ∧ w'.cell? ⟨G, 0, none⟩ = some (.bool bd) ∧ w'.cell? ⟨G, 1, none⟩ = some (.int .i64 (s2 : Int)) ∧ w'.cell? ⟨G, 2, none⟩ = some (.slice (some ⟨gm, 0, none⟩) D cm) ∧ w'.cell? ⟨G, 3, none⟩ = some (.slice (some ⟨gb, 0, none⟩) m cb)) (first | go_keep | exact keepC8 hua2 (by assumption) | exact keepC8 hua1 (by assumption)) ((first | (go_at_call 21; refine Calls.mono (applied_is m u q' b' bd s2 MM BB (plusI m V2 V3 u) gm D cm gb cb gp cp _ HN.out (by omega) (by omega) HD.out HML.out HBL.out (plusI_length _ _ _ _) HMS.out HBS.out (plusI_small _ _ _ _ (by omega)) (iM.up (Up.trans (Up.drew (Up.refl _)) hua1)) (iB.up (Up.trans (Up.drew (Up.refl _)) hua1)) ip) ?_; rintro e w7 ⟨gFY, cFY, rfl, iFY, hua2⟩) | (go_at_call 22; refine Calls.mono (both_is m u q' b' V2 V3 gl2 gl3 cl2 cl3 _ hm4 hm16 (by omega) (by omega) HVL2.out HVL3.out HVS2.out HVS3.out (il2.up (Up.drew (Up.refl _))) (il3.up (Up.drew (Up.refl _)))) ?_; rintro e wa1 ⟨gp, cp, rfl, ip, hua1⟩)))
        have huu : Up w6 w7 := Up.trans (Up.trans (Up.drew (Up.refl _)) hua1) hua2
        clear hua1 hua2 ip
        clear hc0 hc1 hc2 hc3
        replace HBc : Hid _ := HBc.out.up huu
        replace hUw := hUw.trans huu
        replace hL0 := keepC huu hL0
        replace hL1 := keepC huu hL1
        replace hL2 := keepC huu hL2
        replace hL3 := keepC huu hL3
        replace iM := iM.up huu
        replace iB := iB.up huu
        replace il1 := il1.up huu
        replace il2 := il2.up huu
        replace il3 := il3.up huu
        replace il4 := il4.up huu
        replace iFX := iFX.up huu
        clear huu
        obtain ⟨FY, hFY⟩ : ∃ F, F = alI m u MM BB (plusI m V2 V3 u) := ⟨_, rfl⟩
        rw [← hFY] at iFY
        have HFYL : Hid (FY.length = m) := show _ = _ by rw [hFY]; exact alI_length _ _ _ _ _
        have HFYS : Hid (∀ i, i < m → 0 ≤ FY.getD i 0 ∧ FY.getD i 0 < (u : Int)) := by rw [hFY]; exact alI_small _ _ _ _ _ (by omega)
        have HFY : Hid _ := hFY
        clear hFY
        have hc0 := HBc.out.c0
        have hc1 := HBc.out.c1
        have hc2 := HBc.out.c2
        have hc3 := HBc.out.c3
        have HDL : Hid _ := lessI_length m FY FX u
        have HDS : Hid _ := lessI_lt m FY FX u (by omega)
        go_wp2_with fail
        go_region_held3 (fun w' => w'.cell? ⟨g, 0, none⟩ = some (.int .i64 (m : Int)) ∧ w'.cell? ⟨g, 1, none⟩ = some (.int .i64 (u : Int)) ∧ w'.cell? ⟨g, 2, none⟩ = some (.int .i64 q') ∧ w'.cell? ⟨g, 3, none⟩ = some (.int .i64 b')) (first | go_keep | exact keepC4 hua2 (by assumption) | exact keepC4 hua1 (by assumption)) ((first | (go_at_call 22; have hqq := hua1; clear hqq; refine Calls.mono (both_is m u q' b' V4 (lessI m FY FX u) gl4 gp cl4 cp _ hm4 hm16 (by omega) (by omega) HVL4.out HDL.out HVS4.out HDS.out (il4.up (Up.trans (Up.drew (Up.refl _)) hua1)) ip) ?_; rintro e w8 ⟨gN, cN, rfl, iN, hua2⟩) | (go_at_call 22; refine Calls.mono (less_is m u q' b' FY FX gFY gFX cFY cFX _ hm4 hm16 (by omega) (by omega) HFYL.out HFXL.out HFYS.out HFXS.out (iFY.up (Up.drew (Up.refl _))) (iFX.up (Up.drew (Up.refl _)))) ?_; rintro e wa1 ⟨gp, cp, rfl, ip, hua1⟩)))
        have huu : Up w7 w8 := Up.trans (Up.trans (Up.drew (Up.refl _)) hua1) hua2
        clear hua1 hua2 ip
        clear hc0 hc1 hc2 hc3
        replace HBc : Hid _ := HBc.out.up huu
        replace hUw := hUw.trans huu
        replace hL0 := keepC huu hL0
        replace hL1 := keepC huu hL1
        replace hL2 := keepC huu hL2
        replace hL3 := keepC huu hL3
        replace iM := iM.up huu
        replace iB := iB.up huu
        replace il1 := il1.up huu
        replace il2 := il2.up huu
        replace il3 := il3.up huu
        replace il4 := il4.up huu
        replace iFX := iFX.up huu
        replace iFY := iFY.up huu
        clear huu
        obtain ⟨NN, hNN⟩ : ∃ F, F = plusI m V4 (lessI m FY FX u) u := ⟨_, rfl⟩
        rw [← hNN] at iN
        have HNL : Hid (NN.length = m) := show _ = _ by rw [hNN]; exact plusI_length _ _ _ _
        have HNS : Hid (∀ i, i < m → 0 ≤ NN.getD i 0 ∧ NN.getD i 0 < (u : Int)) := by rw [hNN]; exact plusI_small _ _ _ _ (by omega)
        have HNe : Hid (lessI m FY NN u = lessI m FX V4 u) := show _ = _ by rw [hNN]; exact alike_masks m u FX FY V4
        clear hNN HDL HDS
        have hc0 := HBc.out.c0
        have hc1 := HBc.out.c1
        have hc2 := HBc.out.c2
        have hc3 := HBc.out.c3
        go_wp2_with fail
        refine (less_is m u q' b' FX V4 gFX gl4 cFX cl4 _ hm4 hm16 (by omega) (by omega) HFXL.out HVL4.out HFXS.out HVS4.out iFX il4).mono ?_
        rintro e w9 ⟨gse, cse, rfl, ise, huu⟩
        clear hc0 hc1 hc2 hc3
        replace HBc : Hid _ := HBc.out.up huu
        replace hUw := hUw.trans huu
        replace hL0 := keepC huu hL0
        replace hL1 := keepC huu hL1
        replace hL2 := keepC huu hL2
        replace hL3 := keepC huu hL3
        replace iM := iM.up huu
        replace iB := iB.up huu
        replace il1 := il1.up huu
        replace il2 := il2.up huu
        replace il3 := il3.up huu
        replace il4 := il4.up huu
        replace iFX := iFX.up huu
        replace iFY := iFY.up huu
        replace iN := iN.up huu
        clear huu
        obtain ⟨LY, hLY⟩ : ∃ T, T = (⟨(layL bd s2 MM BB).toArray⟩ : ByteArray) := ⟨_, rfl⟩
        have HLY : Hid _ := hLY
        have HBy : Hid (∀ W, IsI W gm MM → IsI W gb BB → Calls Try.prog 24 #[.agg #[.bool bd, .int .i64 (s2 : Int), .slice (some ⟨gm, 0, none⟩) D cm, .slice (some ⟨gb, 0, none⟩) m cb]] W fun e w' => e = .returned (.string LY) ∧ Up W w') := fun W h1 h2 => by rw [hLY]; exact bytes_calls bd s2 MM BB gm D cm gb m cb W hs2 HML.out (by have h8 : m / 2 * (m / 2) ≤ 8 * 8 := Nat.mul_le_mul (by omega) (by omega); have := HD.out; omega) HBL.out hm16 (fun i hi => by have := HMS.out i hi; omega) (fun i hi => by have := HBS.out i hi; omega) h1 h2
        clear hLY
        obtain ⟨TV3, hTV3⟩ : ∃ T, T = (⟨(textsL 2 V3).toArray⟩ : ByteArray) := ⟨_, rfl⟩
        have HTV3 : Hid _ := hTV3
        have HXV3 : Hid (∀ W, IsI W gl3 V3 → Calls Try.prog 15 #[.slice (some ⟨gl3, 0, none⟩) m cl3] W fun e w' => e = .returned (.string TV3) ∧ Up W w') := fun W hi => by rw [hTV3]; exact keepText_calls m V3 gl3 cl3 W HVL3.out (by omega) (fun i hi => by have := HVS3.out i hi; omega) hi
        clear hTV3
        obtain ⟨TV4, hTV4⟩ : ∃ T, T = (⟨(textsL 2 V4).toArray⟩ : ByteArray) := ⟨_, rfl⟩
        have HTV4 : Hid _ := hTV4
        have HXV4 : Hid (∀ W, IsI W gl4 V4 → Calls Try.prog 15 #[.slice (some ⟨gl4, 0, none⟩) m cl4] W fun e w' => e = .returned (.string TV4) ∧ Up W w') := fun W hi => by rw [hTV4]; exact keepText_calls m V4 gl4 cl4 W HVL4.out (by omega) (fun i hi => by have := HVS4.out i hi; omega) hi
        clear hTV4
        obtain ⟨TNN, hTNN⟩ : ∃ T, T = (⟨(textsL 2 NN).toArray⟩ : ByteArray) := ⟨_, rfl⟩
        have HTNN : Hid _ := hTNN
        have HXNN : Hid (∀ W, IsI W gN NN → Calls Try.prog 15 #[.slice (some ⟨gN, 0, none⟩) m cN] W fun e w' => e = .returned (.string TNN) ∧ Up W w') := fun W hi => by rw [hTNN]; exact keepText_calls m NN gN cN W HNL.out (by omega) (fun i hi => by have := HNS.out i hi; omega) hi
        clear hTNN
        go_wp2_with fail
        refine (hide_box g m u q' b' (keyL d.data.toList m) V1 gl1 cl1 x _ hx P.out HSec.out HBc.out HVL1.out HVS1.out il1).mono ?_
        rintro e wha ⟨rfl, huu⟩
        replace HBc : Hid _ := HBc.out.up huu
        replace hUw := hUw.trans huu
        replace hL0 := keepC huu hL0
        replace hL1 := keepC huu hL1
        replace hL2 := keepC huu hL2
        replace hL3 := keepC huu hL3
        replace iM := iM.up huu
        replace iB := iB.up huu
        replace il1 := il1.up huu
        replace il2 := il2.up huu
        replace il3 := il3.up huu
        replace il4 := il4.up huu
        replace iFX := iFX.up huu
        replace iFY := iFY.up huu
        replace iN := iN.up huu
        replace ise := ise.up huu
        clear huu
        have HC : Hid _ := hide_vals P.out (keyL d.data.toList m) x.data.toList V1 HVL1.out HVS1.out
        have HDE : Hid _ := dec_enc P.out.nt V1 HVL1.out HVS1.out
        generalize hideL m u q' (keyL d.data.toList m) (textsL 2 V1) x.data.toList = C at HC
        obtain ⟨ra, hcm, hX⟩ := lin_keep P.out hb1 hb2 L HLd.out _ C tu.data.toList _ V1 V3 V4 MM BB bd s2 HC.out HDE.out hs2 (by rw [HML.out, HD.out]) HBL.out (by rw [← HD.out]; exact HMS.out) HBS.out HVL3.out HVL4.out HVS3.out HVS4.out
        rw [← HTe.out, ← HLY.out, ← HTV3.out, ← HTV4.out] at hX
        rw [← HFX.out] at hcm
        have HX : Hid _ := hX
        clear hX HC HDE
        rcases hcm with ⟨f1, f2⟩ | ⟨f1, f2⟩
        · obtain ⟨ls, E, hct, hdec⟩ := f2
          have HA : Hid _ := hct
          have HDc : Hid _ := hdec
          rw [f1] at HX
          generalize ra.1 = A at HX HA
          clear f1 hct hdec
          have hc0 := HBc.out.c0
          have hc1 := HBc.out.c1
          have hc2 := HBc.out.c2
          have hc3 := HBc.out.c3
          go_wp2_with fail
          go_region_held3 (fun w' => w'.cell? ⟨g, 0, none⟩ = some (.int .i64 (m : Int)) ∧ w'.cell? ⟨g, 1, none⟩ = some (.int .i64 (u : Int)) ∧ w'.cell? ⟨g, 2, none⟩ = some (.int .i64 q') ∧ w'.cell? ⟨g, 3, none⟩ = some (.int .i64 b') ∧ w'.cell? ⟨G, 0, none⟩ = some (.bool bd) ∧ w'.cell? ⟨G, 1, none⟩ = some (.int .i64 (s2 : Int)) ∧ w'.cell? ⟨G, 2, none⟩ = some (.slice (some ⟨gm, 0, none⟩) D cm) ∧ w'.cell? ⟨G, 3, none⟩ = some (.slice (some ⟨gb, 0, none⟩) m cb)) (first | go_keep | exact keepC8 hub4 (by assumption) | exact keepC8 hub3 (by assumption) | exact keepC8 hub2 (by assumption) | exact keepC8 hub1 (by assumption)) ((first | (go_at_call 23; refine Calls.mono (HX.out _) ?_; rintro e wb4a ⟨rfl, hub4⟩) | (go_at_call 15; have hqq := hx2; clear hqq; refine Calls.mono (HXV4.out _ (il4.up hx2)) ?_; rintro e wb3 ⟨rfl, hub3⟩; have hx3 : Up wha wb3 := hx2.trans hub3) | (go_at_call 15; refine Calls.mono (HXV3.out _ (il3.up hx1)) ?_; rintro e wb2 ⟨rfl, hub2⟩; have hx2 : Up wha wb2 := hx1.trans hub2) | (go_at_call 24; refine Calls.mono (HBy.out _ (iM.up (Up.drew (Up.refl _))) (iB.up (Up.drew (Up.refl _)))) ?_; rintro e wb1 ⟨rfl, hub1⟩; have hx1 : Up wha wb1 := Up.trans (Up.drew (Up.refl _)) hub1)))
          have huu : Up wha wb4a := hx3.trans hub4
          clear hub1 hub2 hub3 hub4 hx1 hx2 hx3
          clear hc0 hc1 hc2 hc3
          replace HBc : Hid _ := HBc.out.up huu
          replace hUw := hUw.trans huu
          replace hL0 := keepC huu hL0
          replace hL1 := keepC huu hL1
          replace hL2 := keepC huu hL2
          replace hL3 := keepC huu hL3
          replace iM := iM.up huu
          replace iB := iB.up huu
          replace il1 := il1.up huu
          replace il2 := il2.up huu
          replace il3 := il3.up huu
          replace il4 := il4.up huu
          replace iFX := iFX.up huu
          replace iFY := iFY.up huu
          replace iN := iN.up huu
          replace ise := ise.up huu
          clear huu
          clear HX
          go_wp2_with fail
          refine (answered_yes g m u q' b' (keyL d.data.toList m) A ls _ E gse cse _ P.out HSec.out HBc.out HA.out HDc.out ise).mono ?_
          rintro e wca ⟨rfl, huu⟩
          replace HBc : Hid _ := HBc.out.up huu
          replace hUw := hUw.trans huu
          replace hL0 := keepC huu hL0
          replace hL1 := keepC huu hL1
          replace hL2 := keepC huu hL2
          replace hL3 := keepC huu hL3
          replace iM := iM.up huu
          replace iB := iB.up huu
          replace il1 := il1.up huu
          replace il2 := il2.up huu
          replace il3 := il3.up huu
          replace il4 := il4.up huu
          replace iFX := iFX.up huu
          replace iFY := iFY.up huu
          replace iN := iN.up huu
          replace ise := ise.up huu
          clear huu
          go_wp2_with fail
          refine (hide_box g m u q' b' (keyL d.data.toList m) V2 gl2 cl2 x _ hx P.out HSec.out HBc.out HVL2.out HVS2.out il2).mono ?_
          rintro e whb ⟨rfl, huu⟩
          replace HBc : Hid _ := HBc.out.up huu
          replace hUw := hUw.trans huu
          replace hL0 := keepC huu hL0
          replace hL1 := keepC huu hL1
          replace hL2 := keepC huu hL2
          replace hL3 := keepC huu hL3
          replace iM := iM.up huu
          replace iB := iB.up huu
          replace il1 := il1.up huu
          replace il2 := il2.up huu
          replace il3 := il3.up huu
          replace il4 := il4.up huu
          replace iFX := iFX.up huu
          replace iFY := iFY.up huu
          replace iN := iN.up huu
          replace ise := ise.up huu
          clear huu
          have HC : Hid _ := hide_vals P.out (keyL d.data.toList m) x.data.toList V2 HVL2.out HVS2.out
          have HDE : Hid _ := dec_enc P.out.nt V2 HVL2.out HVS2.out
          generalize hideL m u q' (keyL d.data.toList m) (textsL 2 V2) x.data.toList = C at HC
          obtain ⟨rb, hcm, hX⟩ := lin_keep P.out hb1 hb2 L HLd.out _ C tu.data.toList _ V2 V3 NN MM BB bd s2 HC.out HDE.out hs2 (by rw [HML.out, HD.out]) HBL.out (by rw [← HD.out]; exact HMS.out) HBS.out HVL3.out HNL.out HVS3.out HNS.out
          rw [← HTe.out, ← HLY.out, ← HTV3.out, ← HTNN.out] at hX
          rw [← HFY.out] at hcm
          rw [HNe.out] at hcm
          have HX : Hid _ := hX
          clear hX HC HDE
          rcases hcm with ⟨f1, f2⟩ | ⟨f1, f2⟩
          · obtain ⟨ls, E, hct, hdec⟩ := f2
            have HA : Hid _ := hct
            have HDc : Hid _ := hdec
            rw [f1] at HX
            generalize rb.1 = A at HX HA
            clear f1 hct hdec
            have hc0 := HBc.out.c0
            have hc1 := HBc.out.c1
            have hc2 := HBc.out.c2
            have hc3 := HBc.out.c3
            go_wp2_with fail
            go_region_held3 (fun w' => w'.cell? ⟨g, 0, none⟩ = some (.int .i64 (m : Int)) ∧ w'.cell? ⟨g, 1, none⟩ = some (.int .i64 (u : Int)) ∧ w'.cell? ⟨g, 2, none⟩ = some (.int .i64 q') ∧ w'.cell? ⟨g, 3, none⟩ = some (.int .i64 b') ∧ w'.cell? ⟨G, 0, none⟩ = some (.bool bd) ∧ w'.cell? ⟨G, 1, none⟩ = some (.int .i64 (s2 : Int)) ∧ w'.cell? ⟨G, 2, none⟩ = some (.slice (some ⟨gm, 0, none⟩) D cm) ∧ w'.cell? ⟨G, 3, none⟩ = some (.slice (some ⟨gb, 0, none⟩) m cb)) (first | go_keep | exact keepC8 hub4 (by assumption) | exact keepC8 hub3 (by assumption) | exact keepC8 hub2 (by assumption) | exact keepC8 hub1 (by assumption)) ((first | (go_at_call 23; refine Calls.mono (HX.out _) ?_; rintro e wb4b ⟨rfl, hub4⟩) | (go_at_call 15; have hqq := hx2; clear hqq; refine Calls.mono (HXNN.out _ (iN.up hx2)) ?_; rintro e wb3 ⟨rfl, hub3⟩; have hx3 : Up whb wb3 := hx2.trans hub3) | (go_at_call 15; refine Calls.mono (HXV3.out _ (il3.up hx1)) ?_; rintro e wb2 ⟨rfl, hub2⟩; have hx2 : Up whb wb2 := hx1.trans hub2) | (go_at_call 24; refine Calls.mono (HBy.out _ (iM.up (Up.drew (Up.refl _))) (iB.up (Up.drew (Up.refl _)))) ?_; rintro e wb1 ⟨rfl, hub1⟩; have hx1 : Up whb wb1 := Up.trans (Up.drew (Up.refl _)) hub1)))
            have huu : Up whb wb4b := hx3.trans hub4
            clear hub1 hub2 hub3 hub4 hx1 hx2 hx3
            clear hc0 hc1 hc2 hc3
            replace HBc : Hid _ := HBc.out.up huu
            replace hUw := hUw.trans huu
            replace hL0 := keepC huu hL0
            replace hL1 := keepC huu hL1
            replace hL2 := keepC huu hL2
            replace hL3 := keepC huu hL3
            replace iM := iM.up huu
            replace iB := iB.up huu
            replace il1 := il1.up huu
            replace il2 := il2.up huu
            replace il3 := il3.up huu
            replace il4 := il4.up huu
            replace iFX := iFX.up huu
            replace iFY := iFY.up huu
            replace iN := iN.up huu
            replace ise := ise.up huu
            clear huu
            clear HX
            go_wp2_with fail
            refine (answered_yes g m u q' b' (keyL d.data.toList m) A ls _ E gse cse _ P.out HSec.out HBc.out HA.out HDc.out ise).mono ?_
            rintro e wcb ⟨rfl, huu⟩
            replace HBc : Hid _ := HBc.out.up huu
            replace hUw := hUw.trans huu
            replace hL0 := keepC huu hL0
            replace hL1 := keepC huu hL1
            replace hL2 := keepC huu hL2
            replace hL3 := keepC huu hL3
            replace iM := iM.up huu
            replace iB := iB.up huu
            replace il1 := il1.up huu
            replace il2 := il2.up huu
            replace il3 := il3.up huu
            replace il4 := il4.up huu
            replace iFX := iFX.up huu
            replace iFY := iFY.up huu
            replace iN := iN.up huu
            replace ise := ise.up huu
            clear huu
            have hc5 := HBc.out.c5
            go_wp2_with fail
            go_ret
            exact ⟨rfl, hUw⟩
          · subst f1
            have HF : Hid _ := f2
            clear f2
            have hc0 := HBc.out.c0
            have hc1 := HBc.out.c1
            have hc2 := HBc.out.c2
            have hc3 := HBc.out.c3
            go_wp2_with fail
            go_region_held3 (fun w' => w'.cell? ⟨g, 0, none⟩ = some (.int .i64 (m : Int)) ∧ w'.cell? ⟨g, 1, none⟩ = some (.int .i64 (u : Int)) ∧ w'.cell? ⟨g, 2, none⟩ = some (.int .i64 q') ∧ w'.cell? ⟨g, 3, none⟩ = some (.int .i64 b') ∧ w'.cell? ⟨G, 0, none⟩ = some (.bool bd) ∧ w'.cell? ⟨G, 1, none⟩ = some (.int .i64 (s2 : Int)) ∧ w'.cell? ⟨G, 2, none⟩ = some (.slice (some ⟨gm, 0, none⟩) D cm) ∧ w'.cell? ⟨G, 3, none⟩ = some (.slice (some ⟨gb, 0, none⟩) m cb)) (first | go_keep | exact keepC8 hub4 (by assumption) | exact keepC8 hub3 (by assumption) | exact keepC8 hub2 (by assumption) | exact keepC8 hub1 (by assumption)) ((first | (go_at_call 23; refine Calls.mono (HX.out _) ?_; rintro e wb4b ⟨rfl, hub4⟩) | (go_at_call 15; have hqq := hx2; clear hqq; refine Calls.mono (HXNN.out _ (iN.up hx2)) ?_; rintro e wb3 ⟨rfl, hub3⟩; have hx3 : Up whb wb3 := hx2.trans hub3) | (go_at_call 15; refine Calls.mono (HXV3.out _ (il3.up hx1)) ?_; rintro e wb2 ⟨rfl, hub2⟩; have hx2 : Up whb wb2 := hx1.trans hub2) | (go_at_call 24; refine Calls.mono (HBy.out _ (iM.up (Up.drew (Up.refl _))) (iB.up (Up.drew (Up.refl _)))) ?_; rintro e wb1 ⟨rfl, hub1⟩; have hx1 : Up whb wb1 := Up.trans (Up.drew (Up.refl _)) hub1)))
            have huu : Up whb wb4b := hx3.trans hub4
            clear hub1 hub2 hub3 hub4 hx1 hx2 hx3
            clear hc0 hc1 hc2 hc3
            replace HBc : Hid _ := HBc.out.up huu
            replace hUw := hUw.trans huu
            replace hL0 := keepC huu hL0
            replace hL1 := keepC huu hL1
            replace hL2 := keepC huu hL2
            replace hL3 := keepC huu hL3
            replace iM := iM.up huu
            replace iB := iB.up huu
            replace il1 := il1.up huu
            replace il2 := il2.up huu
            replace il3 := il3.up huu
            replace il4 := il4.up huu
            replace iFX := iFX.up huu
            replace iFY := iFY.up huu
            replace iN := iN.up huu
            replace ise := ise.up huu
            clear huu
            clear HX
            go_wp2_with fail
            refine (answered_no g m u L q' b' (keyL d.data.toList m) _ _ P.out hb1 hb2 HLd.out HBc.out HF.out).mono ?_
            rintro e wcb ⟨rfl, huu⟩
            replace HBc : Hid _ := HBc.out.up huu
            replace hUw := hUw.trans huu
            replace hL0 := keepC huu hL0
            replace hL1 := keepC huu hL1
            replace hL2 := keepC huu hL2
            replace hL3 := keepC huu hL3
            replace iM := iM.up huu
            replace iB := iB.up huu
            replace il1 := il1.up huu
            replace il2 := il2.up huu
            replace il3 := il3.up huu
            replace il4 := il4.up huu
            replace iFX := iFX.up huu
            replace iFY := iFY.up huu
            replace iN := iN.up huu
            replace ise := ise.up huu
            clear huu
            have hc5 := HBc.out.c5
            go_wp2_with fail
            go_ret
            exact ⟨rfl, hUw⟩
        · subst f1
          have HF : Hid _ := f2
          clear f2
          have hc0 := HBc.out.c0
          have hc1 := HBc.out.c1
          have hc2 := HBc.out.c2
          have hc3 := HBc.out.c3
          go_wp2_with fail
          go_region_held3 (fun w' => w'.cell? ⟨g, 0, none⟩ = some (.int .i64 (m : Int)) ∧ w'.cell? ⟨g, 1, none⟩ = some (.int .i64 (u : Int)) ∧ w'.cell? ⟨g, 2, none⟩ = some (.int .i64 q') ∧ w'.cell? ⟨g, 3, none⟩ = some (.int .i64 b') ∧ w'.cell? ⟨G, 0, none⟩ = some (.bool bd) ∧ w'.cell? ⟨G, 1, none⟩ = some (.int .i64 (s2 : Int)) ∧ w'.cell? ⟨G, 2, none⟩ = some (.slice (some ⟨gm, 0, none⟩) D cm) ∧ w'.cell? ⟨G, 3, none⟩ = some (.slice (some ⟨gb, 0, none⟩) m cb)) (first | go_keep | exact keepC8 hub4 (by assumption) | exact keepC8 hub3 (by assumption) | exact keepC8 hub2 (by assumption) | exact keepC8 hub1 (by assumption)) ((first | (go_at_call 23; refine Calls.mono (HX.out _) ?_; rintro e wb4a ⟨rfl, hub4⟩) | (go_at_call 15; have hqq := hx2; clear hqq; refine Calls.mono (HXV4.out _ (il4.up hx2)) ?_; rintro e wb3 ⟨rfl, hub3⟩; have hx3 : Up wha wb3 := hx2.trans hub3) | (go_at_call 15; refine Calls.mono (HXV3.out _ (il3.up hx1)) ?_; rintro e wb2 ⟨rfl, hub2⟩; have hx2 : Up wha wb2 := hx1.trans hub2) | (go_at_call 24; refine Calls.mono (HBy.out _ (iM.up (Up.drew (Up.refl _))) (iB.up (Up.drew (Up.refl _)))) ?_; rintro e wb1 ⟨rfl, hub1⟩; have hx1 : Up wha wb1 := Up.trans (Up.drew (Up.refl _)) hub1)))
          have huu : Up wha wb4a := hx3.trans hub4
          clear hub1 hub2 hub3 hub4 hx1 hx2 hx3
          clear hc0 hc1 hc2 hc3
          replace HBc : Hid _ := HBc.out.up huu
          replace hUw := hUw.trans huu
          replace hL0 := keepC huu hL0
          replace hL1 := keepC huu hL1
          replace hL2 := keepC huu hL2
          replace hL3 := keepC huu hL3
          replace iM := iM.up huu
          replace iB := iB.up huu
          replace il1 := il1.up huu
          replace il2 := il2.up huu
          replace il3 := il3.up huu
          replace il4 := il4.up huu
          replace iFX := iFX.up huu
          replace iFY := iFY.up huu
          replace iN := iN.up huu
          replace ise := ise.up huu
          clear huu
          clear HX
          go_wp2_with fail
          refine (answered_no g m u L q' b' (keyL d.data.toList m) _ _ P.out hb1 hb2 HLd.out HBc.out HF.out).mono ?_
          rintro e wca ⟨rfl, huu⟩
          replace HBc : Hid _ := HBc.out.up huu
          replace hUw := hUw.trans huu
          replace hL0 := keepC huu hL0
          replace hL1 := keepC huu hL1
          replace hL2 := keepC huu hL2
          replace hL3 := keepC huu hL3
          replace iM := iM.up huu
          replace iB := iB.up huu
          replace il1 := il1.up huu
          replace il2 := il2.up huu
          replace il3 := il3.up huu
          replace il4 := il4.up huu
          replace iFX := iFX.up huu
          replace iFY := iFY.up huu
          replace iN := iN.up huu
          replace ise := ise.up huu
          clear huu
          have hc5 := HBc.out.c5
          go_wp2_with fail
          go_ret
          exact ⟨rfl, hUw⟩
      exact AllReadyH.nil
    exact AllReadyH.nil
  refine AllReadyH.cons (o := { dst := some 18, op := Op.alloc 44, type := 0, pos := "nets.go:106", after := #[], guard := none }) rfl (fun K hK => ?_) ?_
  · go_simp
    refine hK.out _ _ ?_ (fun hHeld2 => ?_)
    · exact keepC8 (Up.drew (Up.alloc (Up.refl w1) _)) ⟨hY0, hY1, hY2, hY3, hc0, hc1, hc2, hc3⟩
    clear hHeld
    have hHeld := hHeld2
    clear hHeld2
    clear hK K
    try simp only [Act.put, List.setIfInBounds_toArray, List.set_cons_zero, List.set_cons_succ]
    refine wpAnyH_ready (rs := [5]) (by kernel_rfl) (by simp) ?_
    refine AllReadyH.cons (o := { dst := some 40, op := Op.call { callee := Callee.value (Operand.func 20), args := #[Operand.tmp 35, Operand.tmp 39], argTypes := #[42, 23] }, type := 44, pos := "nets.go:106", after := #[{ on := 0, ground := Ground.data }, { on := 4, ground := Ground.data }], guard := none }) rfl (fun K hK => ?_) ?_
    · go_simp
      refine Calls.mono (worked_calls m u q' b' bd sh lm lb _ hlm hlb HN.out (by omega) (by omega) hsh hsh2) ?_
      rintro r w2 ⟨s2, gm, cm, gb, cb, hs2, rfl, hgm, hgb, iM, iB, hu2⟩
      obtain ⟨D, hD⟩ : ∃ D, D = m / 2 * (m / 2) := ⟨_, rfl⟩
      rw [← hD] at iM ⊢
      have HD : Hid _ := hD
      clear hD
      have hu12 : Up w1 w2 := Up.trans (Up.drew (Up.alloc (Up.refl _) _)) hu2
      have hg0 := keepC (p := ⟨w1.heap.size, 0, none⟩) hu2 (by simp; rfl)
      have hg1 := keepC (p := ⟨w1.heap.size, 1, none⟩) hu2 (by simp; rfl)
      have hg2 := keepC (p := ⟨w1.heap.size, 2, none⟩) hu2 (by simp; rfl)
      have hg3 := keepC (p := ⟨w1.heap.size, 3, none⟩) hu2 (by simp; rfl)
      have hzg : ∀ o, w2.frozen? ⟨w1.heap.size, o, none⟩ = false := fun o => frozen_up hu2 (by simp; rfl) (by simp)
      go_wp2_with fail
      refine hK.out _ _ ?_ (fun hHeld2 => ?_)
      · exact keepC8 hu2 hHeld
      clear hHeld
      have hHeld := hHeld2
      clear hHeld2
      clear hK K
      try simp only [Act.put, List.setIfInBounds_toArray, List.set_cons_zero, List.set_cons_succ]
      refine wpAnyH_ready (rs := [7]) (by kernel_rfl) (by simp) ?_
      refine AllReadyH.cons (o := { dst := none, op := Op.store 44 (Operand.tmp 18) (Operand.tmp 40), type := 0, pos := "nets.go:106", after := #[{ on := 6, ground := Ground.data }, { on := 5, ground := Ground.data }, { on := 5, ground := Ground.chain }, { on := 0, ground := Ground.phase }, { on := 1, ground := Ground.phase }, { on := 2, ground := Ground.phase }, { on := 3, ground := Ground.phase }, { on := 4, ground := Ground.phase }, { on := 5, ground := Ground.phase }, { on := 6, ground := Ground.phase }], guard := none }) rfl (fun K hK => ?_) ?_
      · go_simp
        refine hK.out _ _ ?_ (fun hHeld2 => ?_)
        · exact ⟨(far4 hne1).trans hHeld.1, (far4 hne1).trans hHeld.2.1, (far4 hne1).trans hHeld.2.2.1, (far4 hne1).trans hHeld.2.2.2.1, (far4 hne2).trans hHeld.2.2.2.2.1, (far4 hne2).trans hHeld.2.2.2.2.2.1, (far4 hne2).trans hHeld.2.2.2.2.2.2.1, (far4 hne2).trans hHeld.2.2.2.2.2.2.2⟩
        clear hHeld
        have hHeld := hHeld2
        clear hHeld2
        clear hK K
        try simp only [Act.put, List.setIfInBounds_toArray, List.set_cons_zero, List.set_cons_succ]
        refine wpAnyH_done (by kernel_rfl) ?_ _
        refine NoPanic.normal ?_
        obtain ⟨hL0, hL1, hL2, hL3⟩ := same4 (x0 := .bool bd) (x1 := .int .i64 (s2 : Int)) (x2 := .slice (some ⟨gm, 0, none⟩) D cm) (x3 := .slice (some ⟨gb, 0, none⟩) m cb) hg0 hg1 hg2 hg3
        have hgM : w1.heap.size ≠ gm := by simp at hgm; omega
        have hgB : w1.heap.size ≠ gb := by simp at hgb; omega
        replace iM := IsI.put (IsI.put (IsI.put (IsI.put (o := 0) iM hgM (.bool bd)) (o := 1) hgM (.int .i64 (s2 : Int))) (o := 2) hgM (.slice (some ⟨gm, 0, none⟩) D cm)) (o := 3) hgM (.slice (some ⟨gb, 0, none⟩) m cb)
        replace iB := IsI.put (IsI.put (IsI.put (IsI.put (o := 0) iB hgB (.bool bd)) (o := 1) hgB (.int .i64 (s2 : Int))) (o := 2) hgB (.slice (some ⟨gm, 0, none⟩) D cm)) (o := 3) hgB (.slice (some ⟨gb, 0, none⟩) m cb)
        have hu1W : Up w1 ((((w2.setCell ⟨w1.heap.size, 0, none⟩ (.bool bd)).setCell ⟨w1.heap.size, 1, none⟩ (.int .i64 (s2 : Int))).setCell ⟨w1.heap.size, 2, none⟩ (.slice (some ⟨gm, 0, none⟩) D cm)).setCell ⟨w1.heap.size, 3, none⟩ (.slice (some ⟨gb, 0, none⟩) m cb)) := (((hu12.setCell (by simp) _).setCell (by simp) _).setCell (by simp) _).setCell (by simp) _
        generalize ((((w2.setCell ⟨w1.heap.size, 0, none⟩ (.bool bd)).setCell ⟨w1.heap.size, 1, none⟩ (.int .i64 (s2 : Int))).setCell ⟨w1.heap.size, 2, none⟩ (.slice (some ⟨gm, 0, none⟩) D cm)).setCell ⟨w1.heap.size, 3, none⟩ (.slice (some ⟨gb, 0, none⟩) m cb)) = W2 at hL0 hL1 hL2 hL3 iM iB hu1W ⊢
        obtain ⟨G, hG⟩ : ∃ G, G = w1.heap.size := ⟨_, rfl⟩
        rw [← hG] at hL0 hL1 hL2 hL3 ⊢
        clear hHeld hu2 hu12 hgm hgb hne1 hne2 hY0 hY1 hY2 hY3 hc0 hc1 hc2 hc3
        clear hg0 hg1 hg2 hg3 hzg hgM hgB
        replace HBc : Hid _ := HBc.out.up hu1W
        replace hUw := hUw.trans hu1W
        clear hu1W
        have HML : Hid _ := valsI_length D u lm.data.toList
        have HMS : Hid _ := valsI_small D u lm.data.toList (by omega)
        have HBL : Hid _ := valsI_length m u lb.data.toList
        have HBS : Hid _ := valsI_small m u lb.data.toList (by omega)
        generalize valsI D u lm.data.toList = MM at iM HML HMS
        generalize valsI m u lb.data.toList = BB at iB HBL HBS
        clear hG
        have hc0 := HBc.out.c0
        have hc1 := HBc.out.c1
        have hc2 := HBc.out.c2
        have hc3 := HBc.out.c3
        have HVL1 : Hid _ := valsI_length m u v.data.toList
        have HVS1 : Hid _ := valsI_small m u v.data.toList (by omega)
        go_wp2_with fail
        refine (values_calls m u q' b' v _ hv (by omega) (by omega) (by omega)).mono ?_
        rintro e wv1 ⟨vv, rfl, hoo, huu⟩
        obtain ⟨gl1, cl1, rfl, _, il1⟩ := hoo.is (ne_nil_of_length (valsI_length _ _ _) (by omega))
        rw [valsI_length]
        generalize valsI m u v.data.toList = V1 at il1 HVL1 HVS1
        clear hoo
        clear hc0 hc1 hc2 hc3
        replace HBc : Hid _ := HBc.out.up huu
        replace hUw := hUw.trans huu
        replace hL0 := keepC huu hL0
        replace hL1 := keepC huu hL1
        replace hL2 := keepC huu hL2
        replace hL3 := keepC huu hL3
        replace iM := iM.up huu
        replace iB := iB.up huu
        clear huu
        have hc0 := HBc.out.c0
        have hc1 := HBc.out.c1
        have hc2 := HBc.out.c2
        have hc3 := HBc.out.c3
        have HVL2 : Hid _ := valsI_length m u y.data.toList
        have HVS2 : Hid _ := valsI_small m u y.data.toList (by omega)
        go_wp2_with fail
        refine (values_calls m u q' b' y _ hy (by omega) (by omega) (by omega)).mono ?_
        rintro e wv2 ⟨vv, rfl, hoo, huu⟩
        obtain ⟨gl2, cl2, rfl, _, il2⟩ := hoo.is (ne_nil_of_length (valsI_length _ _ _) (by omega))
        rw [valsI_length]
        generalize valsI m u y.data.toList = V2 at il2 HVL2 HVS2
        clear hoo
        clear hc0 hc1 hc2 hc3
        replace HBc : Hid _ := HBc.out.up huu
        replace hUw := hUw.trans huu
        replace hL0 := keepC huu hL0
        replace hL1 := keepC huu hL1
        replace hL2 := keepC huu hL2
        replace hL3 := keepC huu hL3
        replace iM := iM.up huu
        replace iB := iB.up huu
        replace il1 := il1.up huu
        clear huu
        have hc0 := HBc.out.c0
        have hc1 := HBc.out.c1
        have hc2 := HBc.out.c2
        have hc3 := HBc.out.c3
        have HVL3 : Hid _ := valsI_length m u s.data.toList
        have HVS3 : Hid _ := valsI_small m u s.data.toList (by omega)
        go_wp2_with fail
        refine (values_calls m u q' b' s _ hs (by omega) (by omega) (by omega)).mono ?_
        rintro e wv3 ⟨vv, rfl, hoo, huu⟩
        obtain ⟨gl3, cl3, rfl, _, il3⟩ := hoo.is (ne_nil_of_length (valsI_length _ _ _) (by omega))
        rw [valsI_length]
        generalize valsI m u s.data.toList = V3 at il3 HVL3 HVS3
        clear hoo
        clear hc0 hc1 hc2 hc3
        replace HBc : Hid _ := HBc.out.up huu
        replace hUw := hUw.trans huu
        replace hL0 := keepC huu hL0
        replace hL1 := keepC huu hL1
        replace hL2 := keepC huu hL2
        replace hL3 := keepC huu hL3
        replace iM := iM.up huu
        replace iB := iB.up huu
        replace il1 := il1.up huu
        replace il2 := il2.up huu
        clear huu
        have hc0 := HBc.out.c0
        have hc1 := HBc.out.c1
        have hc2 := HBc.out.c2
        have hc3 := HBc.out.c3
        have HVL4 : Hid _ := valsI_length m u k.data.toList
        have HVS4 : Hid _ := valsI_small m u k.data.toList (by omega)
        go_wp2_with fail
        refine (values_calls m u q' b' k _ hk (by omega) (by omega) (by omega)).mono ?_
        rintro e wv4 ⟨vv, rfl, hoo, huu⟩
        obtain ⟨gl4, cl4, rfl, _, il4⟩ := hoo.is (ne_nil_of_length (valsI_length _ _ _) (by omega))
        rw [valsI_length]
        generalize valsI m u k.data.toList = V4 at il4 HVL4 HVS4
        clear hoo
        clear hc0 hc1 hc2 hc3
        replace HBc : Hid _ := HBc.out.up huu
        replace hUw := hUw.trans huu
        replace hL0 := keepC huu hL0
        replace hL1 := keepC huu hL1
        replace hL2 := keepC huu hL2
        replace hL3 := keepC huu hL3
        replace iM := iM.up huu
        replace iB := iB.up huu
        replace il1 := il1.up huu
        replace il2 := il2.up huu
        replace il3 := il3.up huu
        clear huu
        have hc0 := HBc.out.c0
        have hc1 := HBc.out.c1
        have hc2 := HBc.out.c2
        have hc3 := HBc.out.c3
        have hc4 := HBc.out.c4
        generalize hKe : (⟨(keyL d.data.toList m).toArray⟩ : ByteArray) = KK at HTK hc4
        clear hKe
        go_wp2_with fail
        go_region_held3 (fun w' => w'.cell? ⟨g, 0, none⟩ = some (.int .i64 (m : Int)) ∧ w'.cell? ⟨g, 1, none⟩ = some (.int .i64 (u : Int)) ∧ w'.cell? ⟨g, 2, none⟩ = some (.int .i64 q') ∧ w'.cell? ⟨g, 3, none⟩ = some (.int .i64 b') ∧ w'.cell? ⟨g, 4, none⟩ = some (.string KK)) (first | go_keep | exact keepC5 hu4 (by assumption)) ((first | (go_at_call 10; refine Calls.mono (HTK.out _) ?_; rintro e w4 ⟨rfl, hu4⟩)))
        have huu : Up wv4 w4 := Up.trans (Up.drew (Up.refl _)) hu4
        clear hc0 hc1 hc2 hc3 hc4 hu4
        replace HBc : Hid _ := HBc.out.up huu
        replace hUw := hUw.trans huu
        replace hL0 := keepC huu hL0
        replace hL1 := keepC huu hL1
        replace hL2 := keepC huu hL2
        replace hL3 := keepC huu hL3
        replace iM := iM.up huu
        replace iB := iB.up huu
        replace il1 := il1.up huu
        replace il2 := il2.up huu
        replace il3 := il3.up huu
        replace il4 := il4.up huu
        clear huu
        go_wp2_with fail
        refine (must_calls g _).mono ?_
        rintro e w5 ⟨rfl, rfl⟩
        have hc0 := HBc.out.c0
        have hc1 := HBc.out.c1
        have hc2 := HBc.out.c2
        have hc3 := HBc.out.c3
        go_wp2_with fail
        go_region_held3 (fun w' => w'.cell? ⟨g, 0, none⟩ = some (.int .i64 (m : Int)) ∧ w'.cell? ⟨g, 1, none⟩ = some (.int .i64 (u : Int)) ∧ w'.cell? ⟨g, 2, none⟩ = some (.int .i64 q') ∧ w'.cell? ⟨g, 3, none⟩ = some (.int .i64 b') ∧ w'.cell? ⟨G, 0, none⟩ = some (.bool bd) ∧ w'.cell? ⟨G, 1, none⟩ = some (.int .i64 (s2 : Int)) ∧ w'.cell? ⟨G, 2, none⟩ = some (.slice (some ⟨gm, 0, none⟩) D cm) ∧ w'.cell? ⟨G, 3, none⟩ = some (.slice (some ⟨gb, 0, none⟩) m cb)) (first | go_keep | exact keepC8 hua2 (by assumption) | exact keepC8 hua1 (by assumption)) ((first | (go_at_call 21; refine Calls.mono (applied_is m u q' b' bd s2 MM BB (plusI m V1 V3 u) gm D cm gb cb gp cp _ HN.out (by omega) (by omega) HD.out HML.out HBL.out (plusI_length _ _ _ _) HMS.out HBS.out (plusI_small _ _ _ _ (by omega)) (iM.up (Up.trans (Up.drew (Up.refl _)) hua1)) (iB.up (Up.trans (Up.drew (Up.refl _)) hua1)) ip) ?_; rintro e w6 ⟨gFX, cFX, rfl, iFX, hua2⟩) | (go_at_call 22; refine Calls.mono (both_is m u q' b' V1 V3 gl1 gl3 cl1 cl3 _ hm4 hm16 (by omega) (by omega) HVL1.out HVL3.out HVS1.out HVS3.out (il1.up (Up.drew (Up.refl _))) (il3.up (Up.drew (Up.refl _)))) ?_; rintro e wa1 ⟨gp, cp, rfl, ip, hua1⟩)))
        have huu : Up w5 w6 := Up.trans (Up.trans (Up.drew (Up.refl _)) hua1) hua2
        clear hua1 hua2 ip
        clear hc0 hc1 hc2 hc3
        replace HBc : Hid _ := HBc.out.up huu
        replace hUw := hUw.trans huu
        replace hL0 := keepC huu hL0
        replace hL1 := keepC huu hL1
        replace hL2 := keepC huu hL2
        replace hL3 := keepC huu hL3
        replace iM := iM.up huu
        replace iB := iB.up huu
        replace il1 := il1.up huu
        replace il2 := il2.up huu
        replace il3 := il3.up huu
        replace il4 := il4.up huu
        clear huu
        obtain ⟨FX, hFX⟩ : ∃ F, F = alI m u MM BB (plusI m V1 V3 u) := ⟨_, rfl⟩
        rw [← hFX] at iFX
        have HFXL : Hid (FX.length = m) := show _ = _ by rw [hFX]; exact alI_length _ _ _ _ _
        have HFXS : Hid (∀ i, i < m → 0 ≤ FX.getD i 0 ∧ FX.getD i 0 < (u : Int)) := by rw [hFX]; exact alI_small _ _ _ _ _ (by omega)
        have HFX : Hid _ := hFX
        clear hFX
        have hc0 := HBc.out.c0
        have hc1 := HBc.out.c1
        have hc2 := HBc.out.c2
        have hc3 := HBc.out.c3
        go_wp2_with fail
        go_region_held3 (fun w' => w'.cell? ⟨g, 0, none⟩ = some (.int .i64 (m : Int)) ∧ w'.cell? ⟨g, 1, none⟩ = some (.int .i64 (u : Int)) ∧ w'.cell? ⟨g, 2, none⟩ = some (.int .i64 q') ∧ w'.cell? ⟨g, 3, none⟩ = some (.int .i64 b') ∧ w'.cell? ⟨G, 0, none⟩ = some (.bool bd) ∧ w'.cell? ⟨G, 1, none⟩ = some (.int .i64 (s2 : Int)) ∧ w'.cell? ⟨G, 2, none⟩ = some (.slice (some ⟨gm, 0, none⟩) D cm) ∧ w'.cell? ⟨G, 3, none⟩ = some (.slice (some ⟨gb, 0, none⟩) m cb)) (first | go_keep | exact keepC8 hua2 (by assumption) | exact keepC8 hua1 (by assumption)) ((first | (go_at_call 21; refine Calls.mono (applied_is m u q' b' bd s2 MM BB (plusI m V2 V3 u) gm D cm gb cb gp cp _ HN.out (by omega) (by omega) HD.out HML.out HBL.out (plusI_length _ _ _ _) HMS.out HBS.out (plusI_small _ _ _ _ (by omega)) (iM.up (Up.trans (Up.drew (Up.refl _)) hua1)) (iB.up (Up.trans (Up.drew (Up.refl _)) hua1)) ip) ?_; rintro e w7 ⟨gFY, cFY, rfl, iFY, hua2⟩) | (go_at_call 22; refine Calls.mono (both_is m u q' b' V2 V3 gl2 gl3 cl2 cl3 _ hm4 hm16 (by omega) (by omega) HVL2.out HVL3.out HVS2.out HVS3.out (il2.up (Up.drew (Up.refl _))) (il3.up (Up.drew (Up.refl _)))) ?_; rintro e wa1 ⟨gp, cp, rfl, ip, hua1⟩)))
        have huu : Up w6 w7 := Up.trans (Up.trans (Up.drew (Up.refl _)) hua1) hua2
        clear hua1 hua2 ip
        clear hc0 hc1 hc2 hc3
        replace HBc : Hid _ := HBc.out.up huu
        replace hUw := hUw.trans huu
        replace hL0 := keepC huu hL0
        replace hL1 := keepC huu hL1
        replace hL2 := keepC huu hL2
        replace hL3 := keepC huu hL3
        replace iM := iM.up huu
        replace iB := iB.up huu
        replace il1 := il1.up huu
        replace il2 := il2.up huu
        replace il3 := il3.up huu
        replace il4 := il4.up huu
        replace iFX := iFX.up huu
        clear huu
        obtain ⟨FY, hFY⟩ : ∃ F, F = alI m u MM BB (plusI m V2 V3 u) := ⟨_, rfl⟩
        rw [← hFY] at iFY
        have HFYL : Hid (FY.length = m) := show _ = _ by rw [hFY]; exact alI_length _ _ _ _ _
        have HFYS : Hid (∀ i, i < m → 0 ≤ FY.getD i 0 ∧ FY.getD i 0 < (u : Int)) := by rw [hFY]; exact alI_small _ _ _ _ _ (by omega)
        have HFY : Hid _ := hFY
        clear hFY
        have hc0 := HBc.out.c0
        have hc1 := HBc.out.c1
        have hc2 := HBc.out.c2
        have hc3 := HBc.out.c3
        have HDL : Hid _ := lessI_length m FY FX u
        have HDS : Hid _ := lessI_lt m FY FX u (by omega)
        go_wp2_with fail
        go_region_held3 (fun w' => w'.cell? ⟨g, 0, none⟩ = some (.int .i64 (m : Int)) ∧ w'.cell? ⟨g, 1, none⟩ = some (.int .i64 (u : Int)) ∧ w'.cell? ⟨g, 2, none⟩ = some (.int .i64 q') ∧ w'.cell? ⟨g, 3, none⟩ = some (.int .i64 b')) (first | go_keep | exact keepC4 hua2 (by assumption) | exact keepC4 hua1 (by assumption)) ((first | (go_at_call 22; have hqq := hua1; clear hqq; refine Calls.mono (both_is m u q' b' V4 (lessI m FY FX u) gl4 gp cl4 cp _ hm4 hm16 (by omega) (by omega) HVL4.out HDL.out HVS4.out HDS.out (il4.up (Up.trans (Up.drew (Up.refl _)) hua1)) ip) ?_; rintro e w8 ⟨gN, cN, rfl, iN, hua2⟩) | (go_at_call 22; refine Calls.mono (less_is m u q' b' FY FX gFY gFX cFY cFX _ hm4 hm16 (by omega) (by omega) HFYL.out HFXL.out HFYS.out HFXS.out (iFY.up (Up.drew (Up.refl _))) (iFX.up (Up.drew (Up.refl _)))) ?_; rintro e wa1 ⟨gp, cp, rfl, ip, hua1⟩)))
        have huu : Up w7 w8 := Up.trans (Up.trans (Up.drew (Up.refl _)) hua1) hua2
        clear hua1 hua2 ip
        clear hc0 hc1 hc2 hc3
        replace HBc : Hid _ := HBc.out.up huu
        replace hUw := hUw.trans huu
        replace hL0 := keepC huu hL0
        replace hL1 := keepC huu hL1
        replace hL2 := keepC huu hL2
        replace hL3 := keepC huu hL3
        replace iM := iM.up huu
        replace iB := iB.up huu
        replace il1 := il1.up huu
        replace il2 := il2.up huu
        replace il3 := il3.up huu
        replace il4 := il4.up huu
        replace iFX := iFX.up huu
        replace iFY := iFY.up huu
        clear huu
        obtain ⟨NN, hNN⟩ : ∃ F, F = plusI m V4 (lessI m FY FX u) u := ⟨_, rfl⟩
        rw [← hNN] at iN
        have HNL : Hid (NN.length = m) := show _ = _ by rw [hNN]; exact plusI_length _ _ _ _
        have HNS : Hid (∀ i, i < m → 0 ≤ NN.getD i 0 ∧ NN.getD i 0 < (u : Int)) := by rw [hNN]; exact plusI_small _ _ _ _ (by omega)
        have HNe : Hid (lessI m FY NN u = lessI m FX V4 u) := show _ = _ by rw [hNN]; exact alike_masks m u FX FY V4
        clear hNN HDL HDS
        have hc0 := HBc.out.c0
        have hc1 := HBc.out.c1
        have hc2 := HBc.out.c2
        have hc3 := HBc.out.c3
        go_wp2_with fail
        refine (less_is m u q' b' FX V4 gFX gl4 cFX cl4 _ hm4 hm16 (by omega) (by omega) HFXL.out HVL4.out HFXS.out HVS4.out iFX il4).mono ?_
        rintro e w9 ⟨gse, cse, rfl, ise, huu⟩
        clear hc0 hc1 hc2 hc3
        replace HBc : Hid _ := HBc.out.up huu
        replace hUw := hUw.trans huu
        replace hL0 := keepC huu hL0
        replace hL1 := keepC huu hL1
        replace hL2 := keepC huu hL2
        replace hL3 := keepC huu hL3
        replace iM := iM.up huu
        replace iB := iB.up huu
        replace il1 := il1.up huu
        replace il2 := il2.up huu
        replace il3 := il3.up huu
        replace il4 := il4.up huu
        replace iFX := iFX.up huu
        replace iFY := iFY.up huu
        replace iN := iN.up huu
        clear huu
        obtain ⟨LY, hLY⟩ : ∃ T, T = (⟨(layL bd s2 MM BB).toArray⟩ : ByteArray) := ⟨_, rfl⟩
        have HLY : Hid _ := hLY
        have HBy : Hid (∀ W, IsI W gm MM → IsI W gb BB → Calls Try.prog 24 #[.agg #[.bool bd, .int .i64 (s2 : Int), .slice (some ⟨gm, 0, none⟩) D cm, .slice (some ⟨gb, 0, none⟩) m cb]] W fun e w' => e = .returned (.string LY) ∧ Up W w') := fun W h1 h2 => by rw [hLY]; exact bytes_calls bd s2 MM BB gm D cm gb m cb W hs2 HML.out (by have h8 : m / 2 * (m / 2) ≤ 8 * 8 := Nat.mul_le_mul (by omega) (by omega); have := HD.out; omega) HBL.out hm16 (fun i hi => by have := HMS.out i hi; omega) (fun i hi => by have := HBS.out i hi; omega) h1 h2
        clear hLY
        obtain ⟨TV3, hTV3⟩ : ∃ T, T = (⟨(textsL 2 V3).toArray⟩ : ByteArray) := ⟨_, rfl⟩
        have HTV3 : Hid _ := hTV3
        have HXV3 : Hid (∀ W, IsI W gl3 V3 → Calls Try.prog 15 #[.slice (some ⟨gl3, 0, none⟩) m cl3] W fun e w' => e = .returned (.string TV3) ∧ Up W w') := fun W hi => by rw [hTV3]; exact keepText_calls m V3 gl3 cl3 W HVL3.out (by omega) (fun i hi => by have := HVS3.out i hi; omega) hi
        clear hTV3
        obtain ⟨TV4, hTV4⟩ : ∃ T, T = (⟨(textsL 2 V4).toArray⟩ : ByteArray) := ⟨_, rfl⟩
        have HTV4 : Hid _ := hTV4
        have HXV4 : Hid (∀ W, IsI W gl4 V4 → Calls Try.prog 15 #[.slice (some ⟨gl4, 0, none⟩) m cl4] W fun e w' => e = .returned (.string TV4) ∧ Up W w') := fun W hi => by rw [hTV4]; exact keepText_calls m V4 gl4 cl4 W HVL4.out (by omega) (fun i hi => by have := HVS4.out i hi; omega) hi
        clear hTV4
        obtain ⟨TNN, hTNN⟩ : ∃ T, T = (⟨(textsL 2 NN).toArray⟩ : ByteArray) := ⟨_, rfl⟩
        have HTNN : Hid _ := hTNN
        have HXNN : Hid (∀ W, IsI W gN NN → Calls Try.prog 15 #[.slice (some ⟨gN, 0, none⟩) m cN] W fun e w' => e = .returned (.string TNN) ∧ Up W w') := fun W hi => by rw [hTNN]; exact keepText_calls m NN gN cN W HNL.out (by omega) (fun i hi => by have := HNS.out i hi; omega) hi
        clear hTNN
        go_wp2_with fail
        refine (hide_box g m u q' b' (keyL d.data.toList m) V1 gl1 cl1 x _ hx P.out HSec.out HBc.out HVL1.out HVS1.out il1).mono ?_
        rintro e wha ⟨rfl, huu⟩
        replace HBc : Hid _ := HBc.out.up huu
        replace hUw := hUw.trans huu
        replace hL0 := keepC huu hL0
        replace hL1 := keepC huu hL1
        replace hL2 := keepC huu hL2
        replace hL3 := keepC huu hL3
        replace iM := iM.up huu
        replace iB := iB.up huu
        replace il1 := il1.up huu
        replace il2 := il2.up huu
        replace il3 := il3.up huu
        replace il4 := il4.up huu
        replace iFX := iFX.up huu
        replace iFY := iFY.up huu
        replace iN := iN.up huu
        replace ise := ise.up huu
        clear huu
        have HC : Hid _ := hide_vals P.out (keyL d.data.toList m) x.data.toList V1 HVL1.out HVS1.out
        have HDE : Hid _ := dec_enc P.out.nt V1 HVL1.out HVS1.out
        generalize hideL m u q' (keyL d.data.toList m) (textsL 2 V1) x.data.toList = C at HC
        obtain ⟨ra, hcm, hX⟩ := lin_keep P.out hb1 hb2 L HLd.out _ C tu.data.toList _ V1 V3 V4 MM BB bd s2 HC.out HDE.out hs2 (by rw [HML.out, HD.out]) HBL.out (by rw [← HD.out]; exact HMS.out) HBS.out HVL3.out HVL4.out HVS3.out HVS4.out
        rw [← HTe.out, ← HLY.out, ← HTV3.out, ← HTV4.out] at hX
        rw [← HFX.out] at hcm
        have HX : Hid _ := hX
        clear hX HC HDE
        rcases hcm with ⟨f1, f2⟩ | ⟨f1, f2⟩
        · obtain ⟨ls, E, hct, hdec⟩ := f2
          have HA : Hid _ := hct
          have HDc : Hid _ := hdec
          rw [f1] at HX
          generalize ra.1 = A at HX HA
          clear f1 hct hdec
          have hc0 := HBc.out.c0
          have hc1 := HBc.out.c1
          have hc2 := HBc.out.c2
          have hc3 := HBc.out.c3
          go_wp2_with fail
          go_region_held3 (fun w' => w'.cell? ⟨g, 0, none⟩ = some (.int .i64 (m : Int)) ∧ w'.cell? ⟨g, 1, none⟩ = some (.int .i64 (u : Int)) ∧ w'.cell? ⟨g, 2, none⟩ = some (.int .i64 q') ∧ w'.cell? ⟨g, 3, none⟩ = some (.int .i64 b') ∧ w'.cell? ⟨G, 0, none⟩ = some (.bool bd) ∧ w'.cell? ⟨G, 1, none⟩ = some (.int .i64 (s2 : Int)) ∧ w'.cell? ⟨G, 2, none⟩ = some (.slice (some ⟨gm, 0, none⟩) D cm) ∧ w'.cell? ⟨G, 3, none⟩ = some (.slice (some ⟨gb, 0, none⟩) m cb)) (first | go_keep | exact keepC8 hub4 (by assumption) | exact keepC8 hub3 (by assumption) | exact keepC8 hub2 (by assumption) | exact keepC8 hub1 (by assumption)) ((first | (go_at_call 23; refine Calls.mono (HX.out _) ?_; rintro e wb4a ⟨rfl, hub4⟩) | (go_at_call 15; have hqq := hx2; clear hqq; refine Calls.mono (HXV4.out _ (il4.up hx2)) ?_; rintro e wb3 ⟨rfl, hub3⟩; have hx3 : Up wha wb3 := hx2.trans hub3) | (go_at_call 15; refine Calls.mono (HXV3.out _ (il3.up hx1)) ?_; rintro e wb2 ⟨rfl, hub2⟩; have hx2 : Up wha wb2 := hx1.trans hub2) | (go_at_call 24; refine Calls.mono (HBy.out _ (iM.up (Up.drew (Up.refl _))) (iB.up (Up.drew (Up.refl _)))) ?_; rintro e wb1 ⟨rfl, hub1⟩; have hx1 : Up wha wb1 := Up.trans (Up.drew (Up.refl _)) hub1)))
          have huu : Up wha wb4a := hx3.trans hub4
          clear hub1 hub2 hub3 hub4 hx1 hx2 hx3
          clear hc0 hc1 hc2 hc3
          replace HBc : Hid _ := HBc.out.up huu
          replace hUw := hUw.trans huu
          replace hL0 := keepC huu hL0
          replace hL1 := keepC huu hL1
          replace hL2 := keepC huu hL2
          replace hL3 := keepC huu hL3
          replace iM := iM.up huu
          replace iB := iB.up huu
          replace il1 := il1.up huu
          replace il2 := il2.up huu
          replace il3 := il3.up huu
          replace il4 := il4.up huu
          replace iFX := iFX.up huu
          replace iFY := iFY.up huu
          replace iN := iN.up huu
          replace ise := ise.up huu
          clear huu
          clear HX
          go_wp2_with fail
          refine (answered_yes g m u q' b' (keyL d.data.toList m) A ls _ E gse cse _ P.out HSec.out HBc.out HA.out HDc.out ise).mono ?_
          rintro e wca ⟨rfl, huu⟩
          replace HBc : Hid _ := HBc.out.up huu
          replace hUw := hUw.trans huu
          replace hL0 := keepC huu hL0
          replace hL1 := keepC huu hL1
          replace hL2 := keepC huu hL2
          replace hL3 := keepC huu hL3
          replace iM := iM.up huu
          replace iB := iB.up huu
          replace il1 := il1.up huu
          replace il2 := il2.up huu
          replace il3 := il3.up huu
          replace il4 := il4.up huu
          replace iFX := iFX.up huu
          replace iFY := iFY.up huu
          replace iN := iN.up huu
          replace ise := ise.up huu
          clear huu
          go_wp2_with fail
          refine (hide_box g m u q' b' (keyL d.data.toList m) V2 gl2 cl2 x _ hx P.out HSec.out HBc.out HVL2.out HVS2.out il2).mono ?_
          rintro e whb ⟨rfl, huu⟩
          replace HBc : Hid _ := HBc.out.up huu
          replace hUw := hUw.trans huu
          replace hL0 := keepC huu hL0
          replace hL1 := keepC huu hL1
          replace hL2 := keepC huu hL2
          replace hL3 := keepC huu hL3
          replace iM := iM.up huu
          replace iB := iB.up huu
          replace il1 := il1.up huu
          replace il2 := il2.up huu
          replace il3 := il3.up huu
          replace il4 := il4.up huu
          replace iFX := iFX.up huu
          replace iFY := iFY.up huu
          replace iN := iN.up huu
          replace ise := ise.up huu
          clear huu
          have HC : Hid _ := hide_vals P.out (keyL d.data.toList m) x.data.toList V2 HVL2.out HVS2.out
          have HDE : Hid _ := dec_enc P.out.nt V2 HVL2.out HVS2.out
          generalize hideL m u q' (keyL d.data.toList m) (textsL 2 V2) x.data.toList = C at HC
          obtain ⟨rb, hcm, hX⟩ := lin_keep P.out hb1 hb2 L HLd.out _ C tu.data.toList _ V2 V3 NN MM BB bd s2 HC.out HDE.out hs2 (by rw [HML.out, HD.out]) HBL.out (by rw [← HD.out]; exact HMS.out) HBS.out HVL3.out HNL.out HVS3.out HNS.out
          rw [← HTe.out, ← HLY.out, ← HTV3.out, ← HTNN.out] at hX
          rw [← HFY.out] at hcm
          rw [HNe.out] at hcm
          have HX : Hid _ := hX
          clear hX HC HDE
          rcases hcm with ⟨f1, f2⟩ | ⟨f1, f2⟩
          · obtain ⟨ls, E, hct, hdec⟩ := f2
            have HA : Hid _ := hct
            have HDc : Hid _ := hdec
            rw [f1] at HX
            generalize rb.1 = A at HX HA
            clear f1 hct hdec
            have hc0 := HBc.out.c0
            have hc1 := HBc.out.c1
            have hc2 := HBc.out.c2
            have hc3 := HBc.out.c3
            go_wp2_with fail
            go_region_held3 (fun w' => w'.cell? ⟨g, 0, none⟩ = some (.int .i64 (m : Int)) ∧ w'.cell? ⟨g, 1, none⟩ = some (.int .i64 (u : Int)) ∧ w'.cell? ⟨g, 2, none⟩ = some (.int .i64 q') ∧ w'.cell? ⟨g, 3, none⟩ = some (.int .i64 b') ∧ w'.cell? ⟨G, 0, none⟩ = some (.bool bd) ∧ w'.cell? ⟨G, 1, none⟩ = some (.int .i64 (s2 : Int)) ∧ w'.cell? ⟨G, 2, none⟩ = some (.slice (some ⟨gm, 0, none⟩) D cm) ∧ w'.cell? ⟨G, 3, none⟩ = some (.slice (some ⟨gb, 0, none⟩) m cb)) (first | go_keep | exact keepC8 hub4 (by assumption) | exact keepC8 hub3 (by assumption) | exact keepC8 hub2 (by assumption) | exact keepC8 hub1 (by assumption)) ((first | (go_at_call 23; refine Calls.mono (HX.out _) ?_; rintro e wb4b ⟨rfl, hub4⟩) | (go_at_call 15; have hqq := hx2; clear hqq; refine Calls.mono (HXNN.out _ (iN.up hx2)) ?_; rintro e wb3 ⟨rfl, hub3⟩; have hx3 : Up whb wb3 := hx2.trans hub3) | (go_at_call 15; refine Calls.mono (HXV3.out _ (il3.up hx1)) ?_; rintro e wb2 ⟨rfl, hub2⟩; have hx2 : Up whb wb2 := hx1.trans hub2) | (go_at_call 24; refine Calls.mono (HBy.out _ (iM.up (Up.drew (Up.refl _))) (iB.up (Up.drew (Up.refl _)))) ?_; rintro e wb1 ⟨rfl, hub1⟩; have hx1 : Up whb wb1 := Up.trans (Up.drew (Up.refl _)) hub1)))
            have huu : Up whb wb4b := hx3.trans hub4
            clear hub1 hub2 hub3 hub4 hx1 hx2 hx3
            clear hc0 hc1 hc2 hc3
            replace HBc : Hid _ := HBc.out.up huu
            replace hUw := hUw.trans huu
            replace hL0 := keepC huu hL0
            replace hL1 := keepC huu hL1
            replace hL2 := keepC huu hL2
            replace hL3 := keepC huu hL3
            replace iM := iM.up huu
            replace iB := iB.up huu
            replace il1 := il1.up huu
            replace il2 := il2.up huu
            replace il3 := il3.up huu
            replace il4 := il4.up huu
            replace iFX := iFX.up huu
            replace iFY := iFY.up huu
            replace iN := iN.up huu
            replace ise := ise.up huu
            clear huu
            clear HX
            go_wp2_with fail
            refine (answered_yes g m u q' b' (keyL d.data.toList m) A ls _ E gse cse _ P.out HSec.out HBc.out HA.out HDc.out ise).mono ?_
            rintro e wcb ⟨rfl, huu⟩
            replace HBc : Hid _ := HBc.out.up huu
            replace hUw := hUw.trans huu
            replace hL0 := keepC huu hL0
            replace hL1 := keepC huu hL1
            replace hL2 := keepC huu hL2
            replace hL3 := keepC huu hL3
            replace iM := iM.up huu
            replace iB := iB.up huu
            replace il1 := il1.up huu
            replace il2 := il2.up huu
            replace il3 := il3.up huu
            replace il4 := il4.up huu
            replace iFX := iFX.up huu
            replace iFY := iFY.up huu
            replace iN := iN.up huu
            replace ise := ise.up huu
            clear huu
            have hc5 := HBc.out.c5
            go_wp2_with fail
            go_ret
            exact ⟨rfl, hUw⟩
          · subst f1
            have HF : Hid _ := f2
            clear f2
            have hc0 := HBc.out.c0
            have hc1 := HBc.out.c1
            have hc2 := HBc.out.c2
            have hc3 := HBc.out.c3
            go_wp2_with fail
            go_region_held3 (fun w' => w'.cell? ⟨g, 0, none⟩ = some (.int .i64 (m : Int)) ∧ w'.cell? ⟨g, 1, none⟩ = some (.int .i64 (u : Int)) ∧ w'.cell? ⟨g, 2, none⟩ = some (.int .i64 q') ∧ w'.cell? ⟨g, 3, none⟩ = some (.int .i64 b') ∧ w'.cell? ⟨G, 0, none⟩ = some (.bool bd) ∧ w'.cell? ⟨G, 1, none⟩ = some (.int .i64 (s2 : Int)) ∧ w'.cell? ⟨G, 2, none⟩ = some (.slice (some ⟨gm, 0, none⟩) D cm) ∧ w'.cell? ⟨G, 3, none⟩ = some (.slice (some ⟨gb, 0, none⟩) m cb)) (first | go_keep | exact keepC8 hub4 (by assumption) | exact keepC8 hub3 (by assumption) | exact keepC8 hub2 (by assumption) | exact keepC8 hub1 (by assumption)) ((first | (go_at_call 23; refine Calls.mono (HX.out _) ?_; rintro e wb4b ⟨rfl, hub4⟩) | (go_at_call 15; have hqq := hx2; clear hqq; refine Calls.mono (HXNN.out _ (iN.up hx2)) ?_; rintro e wb3 ⟨rfl, hub3⟩; have hx3 : Up whb wb3 := hx2.trans hub3) | (go_at_call 15; refine Calls.mono (HXV3.out _ (il3.up hx1)) ?_; rintro e wb2 ⟨rfl, hub2⟩; have hx2 : Up whb wb2 := hx1.trans hub2) | (go_at_call 24; refine Calls.mono (HBy.out _ (iM.up (Up.drew (Up.refl _))) (iB.up (Up.drew (Up.refl _)))) ?_; rintro e wb1 ⟨rfl, hub1⟩; have hx1 : Up whb wb1 := Up.trans (Up.drew (Up.refl _)) hub1)))
            have huu : Up whb wb4b := hx3.trans hub4
            clear hub1 hub2 hub3 hub4 hx1 hx2 hx3
            clear hc0 hc1 hc2 hc3
            replace HBc : Hid _ := HBc.out.up huu
            replace hUw := hUw.trans huu
            replace hL0 := keepC huu hL0
            replace hL1 := keepC huu hL1
            replace hL2 := keepC huu hL2
            replace hL3 := keepC huu hL3
            replace iM := iM.up huu
            replace iB := iB.up huu
            replace il1 := il1.up huu
            replace il2 := il2.up huu
            replace il3 := il3.up huu
            replace il4 := il4.up huu
            replace iFX := iFX.up huu
            replace iFY := iFY.up huu
            replace iN := iN.up huu
            replace ise := ise.up huu
            clear huu
            clear HX
            go_wp2_with fail
            refine (answered_no g m u L q' b' (keyL d.data.toList m) _ _ P.out hb1 hb2 HLd.out HBc.out HF.out).mono ?_
            rintro e wcb ⟨rfl, huu⟩
            replace HBc : Hid _ := HBc.out.up huu
            replace hUw := hUw.trans huu
            replace hL0 := keepC huu hL0
            replace hL1 := keepC huu hL1
            replace hL2 := keepC huu hL2
            replace hL3 := keepC huu hL3
            replace iM := iM.up huu
            replace iB := iB.up huu
            replace il1 := il1.up huu
            replace il2 := il2.up huu
            replace il3 := il3.up huu
            replace il4 := il4.up huu
            replace iFX := iFX.up huu
            replace iFY := iFY.up huu
            replace iN := iN.up huu
            replace ise := ise.up huu
            clear huu
            have hc5 := HBc.out.c5
            go_wp2_with fail
            go_ret
            exact ⟨rfl, hUw⟩
        · subst f1
          have HF : Hid _ := f2
          clear f2
          have hc0 := HBc.out.c0
          have hc1 := HBc.out.c1
          have hc2 := HBc.out.c2
          have hc3 := HBc.out.c3
          go_wp2_with fail
          go_region_held3 (fun w' => w'.cell? ⟨g, 0, none⟩ = some (.int .i64 (m : Int)) ∧ w'.cell? ⟨g, 1, none⟩ = some (.int .i64 (u : Int)) ∧ w'.cell? ⟨g, 2, none⟩ = some (.int .i64 q') ∧ w'.cell? ⟨g, 3, none⟩ = some (.int .i64 b') ∧ w'.cell? ⟨G, 0, none⟩ = some (.bool bd) ∧ w'.cell? ⟨G, 1, none⟩ = some (.int .i64 (s2 : Int)) ∧ w'.cell? ⟨G, 2, none⟩ = some (.slice (some ⟨gm, 0, none⟩) D cm) ∧ w'.cell? ⟨G, 3, none⟩ = some (.slice (some ⟨gb, 0, none⟩) m cb)) (first | go_keep | exact keepC8 hub4 (by assumption) | exact keepC8 hub3 (by assumption) | exact keepC8 hub2 (by assumption) | exact keepC8 hub1 (by assumption)) ((first | (go_at_call 23; refine Calls.mono (HX.out _) ?_; rintro e wb4a ⟨rfl, hub4⟩) | (go_at_call 15; have hqq := hx2; clear hqq; refine Calls.mono (HXV4.out _ (il4.up hx2)) ?_; rintro e wb3 ⟨rfl, hub3⟩; have hx3 : Up wha wb3 := hx2.trans hub3) | (go_at_call 15; refine Calls.mono (HXV3.out _ (il3.up hx1)) ?_; rintro e wb2 ⟨rfl, hub2⟩; have hx2 : Up wha wb2 := hx1.trans hub2) | (go_at_call 24; refine Calls.mono (HBy.out _ (iM.up (Up.drew (Up.refl _))) (iB.up (Up.drew (Up.refl _)))) ?_; rintro e wb1 ⟨rfl, hub1⟩; have hx1 : Up wha wb1 := Up.trans (Up.drew (Up.refl _)) hub1)))
          have huu : Up wha wb4a := hx3.trans hub4
          clear hub1 hub2 hub3 hub4 hx1 hx2 hx3
          clear hc0 hc1 hc2 hc3
          replace HBc : Hid _ := HBc.out.up huu
          replace hUw := hUw.trans huu
          replace hL0 := keepC huu hL0
          replace hL1 := keepC huu hL1
          replace hL2 := keepC huu hL2
          replace hL3 := keepC huu hL3
          replace iM := iM.up huu
          replace iB := iB.up huu
          replace il1 := il1.up huu
          replace il2 := il2.up huu
          replace il3 := il3.up huu
          replace il4 := il4.up huu
          replace iFX := iFX.up huu
          replace iFY := iFY.up huu
          replace iN := iN.up huu
          replace ise := ise.up huu
          clear huu
          clear HX
          go_wp2_with fail
          refine (answered_no g m u L q' b' (keyL d.data.toList m) _ _ P.out hb1 hb2 HLd.out HBc.out HF.out).mono ?_
          rintro e wca ⟨rfl, huu⟩
          replace HBc : Hid _ := HBc.out.up huu
          replace hUw := hUw.trans huu
          replace hL0 := keepC huu hL0
          replace hL1 := keepC huu hL1
          replace hL2 := keepC huu hL2
          replace hL3 := keepC huu hL3
          replace iM := iM.up huu
          replace iB := iB.up huu
          replace il1 := il1.up huu
          replace il2 := il2.up huu
          replace il3 := il3.up huu
          replace il4 := il4.up huu
          replace iFX := iFX.up huu
          replace iFY := iFY.up huu
          replace iN := iN.up huu
          replace ise := ise.up huu
          clear huu
          have hc5 := HBc.out.c5
          go_wp2_with fail
          go_ret
          exact ⟨rfl, hUw⟩
      exact AllReadyH.nil
    exact AllReadyH.nil
  exact AllReadyH.nil

end Go.Proofs.Ytcjhgbljhpflfab
