/-
  Walks: the reference's Plus, Scaled, Times.
  Walks: the reference's Pair, Secret, Digits.
-/
import Derived.Test.YtjiekfplgmfgiabGreatWalksF
import Derived.Test.YtjiekfplgmfgiabGreatMathG
namespace Go.Proofs.YtjiekfplgmfgiabGreat
open Go.RowKit
set_option linter.unusedVariables false
set_option maxRecDepth 100000

/-- all numbers lie from -m to m -/
def Bnd (xs : List Int) (m : Int) : Prop := ∀ i, -m ≤ xs.getD i 0 ∧ xs.getD i 0 ≤ m

set_option maxHeartbeats 2000000 in
theorem Plus_calls (n : Nat) (xs ys : List Int) (ga gb ca cb : Nat) (q : Int) (w : World) (hn : n ≤ 16) (hla : xs.length = n) (hlb : ys.length = n) (hq : 0 < q) (hq2 : q ≤ 1073741823) (ha : Bnd xs 4294967296) (hb : Bnd ys 4294967296) (ia : IsI w ga xs) (ib : IsI w gb ys) :
    Calls Tryz.prog 62 #[.slice (some ⟨ga, 0, none⟩) n ca, .slice (some ⟨gb, 0, none⟩) n cb, .int .i64 q] w fun e w' => ∃ v, e = .returned v ∧ OwnI w' w.heap.size v (plusI n xs ys q) ∧ Up w w' := by
  have HA : Hid _ := ha
  have HB : Hid _ := hb
  have HLA : Hid _ := hla
  have HLB : Hid _ := hlb
  have hga := ia.1
  have hgb := ib.1
  clear ha hb hla hlb
  go_enter Tryz.func62, Tryz.ntmps62
  go_wp2_with fail
  go_loopw [7, 8] (fun v j wr => ∃ k : Nat, k ≤ n ∧ j = .int .i64 (k : Int) ∧ OwnI wr w.heap.size v ((List.range k).map (plusC xs ys q)) ∧ Up w wr) (fun _ j _ => n - (intOf j).toNat)
  case atStart => exact ⟨0, Nat.zero_le _, rfl, World.ownsRow_nil _ _ _ _, Up.refl _⟩
  case round =>
    obtain ⟨k, hk, rfl, hown, hu⟩ := hrel
    by_cases hlt : k < n
    · have hca := (ia.up hu).2 k (by rw [HLA.out]; omega)
      have hcb := (ib.up hu).2 k (by rw [HLB.out]; omega)
      have hba := HA.out k
      have hbb := HB.out k
      have HR : Hid ((List.range (k + 1)).map (plusC xs ys q) = (List.range k).map (plusC xs ys q) ++ [(xs.getD k 0 + ys.getD k 0) % q]) := map_range_succ _ _
      generalize xs.getD k 0 = x at hca hba HR
      generalize ys.getD k 0 = y at hcb hbb HR
      have e1 : IntKind.i64.wrap (x + y) = x + y := IntWalk.i64_in _ (by omega)
      have hi0 : (0 : Int) ≤ (k : Int) := by omega
      have hi1 : (k : Int) < (n : Int) := by omega
      have hcn : (wr.alloc (.cells #[.int .i64 ((x + y) % q)] 3)).drew.cell? ⟨wr.heap.size, 0, none⟩ = some (.int .i64 ((x + y) % q)) := by simp
      have hbs := Nat.le_trans hu.size (Up.drew (Up.alloc (Up.refl wr) (.cells #[.int .i64 ((x + y) % q)] 3))).size
      go_wp2_with fail
      go_region_held3 (fun w' => w'.cell? ⟨ga, k, none⟩ = some (.int .i64 x) ∧ w'.cell? ⟨gb, k, none⟩ = some (.int .i64 y))
        (first | go_keep | exact keepS hb4 hga hgb (by assumption))
        ((first | (go_at_call 65; refine (Mod_calls _ _ _ (by omega) (by omega)).mono ?_; rintro e w' ⟨rfl, rfl⟩) | (refine step_append_int (wr.alloc (.cells #[.int .i64 ((x + y) % q)] 3)).drew ((x + y) % q) wr.heap.size rfl (.tmp 15) (.tmp 27) rfl _ u7 ((List.range k).map (plusC xs ys q)) rfl (hown.up (Up.drew (Up.alloc (Up.refl _) _))) rfl hcn (by simp; omega) hbs ?_; intro v4 w4 hown4 hg4 hb4)))
      clear hcn hbs hca hcb
      go_wp2_with fail
      go_roundw
      case rel => exact ⟨k + 1, by omega, by go_num, by rw [HR.out]; exact hown4, Below.trans (Up.drew (Below.alloc hu hu.size _)) hb4⟩
      case measure => simp [intOf]; omega
    · obtain rfl : k = n := by omega
      go_wp2_with fail
      go_ret
      exact ⟨_, rfl, hown, hu⟩

set_option maxHeartbeats 2000000 in
theorem Scaled_calls (n : Nat) (xs : List Int) (ga ca : Nat) (s q : Int) (w : World) (hn : n ≤ 16) (hla : xs.length = n) (hq : 0 < q) (hq2 : q ≤ 1073741823) (hs1 : -1073741824 ≤ s) (hs2 : s ≤ 1073741824) (ia : IsI w ga xs) :
    Calls Tryz.prog 64 #[.slice (some ⟨ga, 0, none⟩) n ca, .int .i64 s, .int .i64 q] w fun e w' => ∃ v, e = .returned v ∧ OwnI w' w.heap.size v (scaledI n xs s q) ∧ Up w w' := by
  have HLA : Hid _ := hla
  clear hla
  go_enter Tryz.func64, Tryz.ntmps64
  go_wp2_with fail
  go_loopw [7, 8] (fun v j wr => ∃ k : Nat, k ≤ n ∧ j = .int .i64 (k : Int) ∧ OwnI wr w.heap.size v ((List.range k).map (scaledC xs s q)) ∧ Up w wr) (fun _ j _ => n - (intOf j).toNat)
  case atStart => exact ⟨0, Nat.zero_le _, rfl, World.ownsRow_nil _ _ _ _, Up.refl _⟩
  case round =>
    obtain ⟨k, hk, rfl, hown, hu⟩ := hrel
    by_cases hlt : k < n
    · have hca := (ia.up hu).2 k (by rw [HLA.out]; omega)
      have HR : Hid ((List.range (k + 1)).map (scaledC xs s q) = (List.range k).map (scaledC xs s q) ++ [s * (xs.getD k 0 % q) % q]) := by
        show _ = _
        rw [mul_mod_right]
        exact map_range_succ _ _
      generalize xs.getD k 0 = x at hca HR
      have hm := mod_bounds hq x
      go_wp2_with fail
      refine (Mod_calls _ _ _ hq (by omega)).mono ?_
      rintro e w' ⟨rfl, rfl⟩
      generalize x % q = y at hm HR
      have h1 : s * y ≤ 1073741824 * 1073741824 := by
        rcases Int.le_total 0 s with h | h
        · exact Int.mul_le_mul hs2 (by omega) (by omega) (by omega)
        · have := Int.mul_nonneg (show 0 ≤ -s by omega) hm.1
          rw [Int.neg_mul] at this
          omega
      have h2 : -(1073741824 * 1073741824) ≤ s * y := by
        rcases Int.le_total 0 s with h | h
        · have := Int.mul_nonneg h hm.1
          omega
        · have : -s * y ≤ 1073741824 * 1073741824 := Int.mul_le_mul (by omega) (by omega) hm.1 (by omega)
          rw [Int.neg_mul] at this
          omega
      go_wp2_with fail
      refine (Mod_calls _ _ _ hq (by omega)).mono ?_
      rintro e w' ⟨rfl, rfl⟩
      go_wp2_with (at_builtin; refine append_int _ _ rfl _ _ rfl _ _ _ rfl hown rfl (by simp; omega) hu.size ?_)
      intro v4 w4 hown4 hg4 hb4 _
      clear hown hg4 hca
      go_wp2_with fail
      go_roundw
      case rel => exact ⟨k + 1, by omega, by go_num, by rw [HR.out]; exact hown4, Below.trans hu hb4⟩
      case measure => simp [intOf]; omega
    · obtain rfl : k = n := by omega
      go_wp2_with fail
      go_ret
      exact ⟨_, rfl, hown, hu⟩

theorem mul_in (a y m : Int) (ha1 : -m ≤ a) (ha2 : a ≤ m) (hy1 : 0 ≤ y) (hy2 : y ≤ m) (hm : 0 ≤ m) : -(m * m) ≤ a * y ∧ a * y ≤ m * m := by
  rcases Int.le_total 0 a with h | h
  · have h1 := Int.mul_nonneg h hy1
    have h2 : a * y ≤ m * m := Int.mul_le_mul ha2 hy2 hy1 hm
    have h3 := Int.mul_nonneg hm hm
    omega
  · have h1 := Int.mul_nonneg (show 0 ≤ -a by omega) hy1
    have h2 : -a * y ≤ m * m := Int.mul_le_mul (by omega) hy2 hy1 hm
    have h3 := Int.mul_nonneg hm hm
    rw [Int.neg_mul] at h1 h2
    omega

set_option maxHeartbeats 4000000 in
theorem Times_calls (n : Nat) (xs ys : List Int) (ga gb ca cb : Nat) (q : Int) (w : World) (hn : n ≤ 16) (hla : xs.length = n) (hlb : ys.length = n) (hq : 0 < q) (hq2 : q ≤ 1073741823) (ha : Bnd xs 1073741824) (ia : IsI w ga xs) (ib : IsI w gb ys) :
    Calls Tryz.prog 57 #[.slice (some ⟨ga, 0, none⟩) n ca, .slice (some ⟨gb, 0, none⟩) n cb, .int .i64 q] w fun e w' => ∃ v, e = .returned v ∧ OwnI w' w.heap.size v (timesI n xs ys q) ∧ Up w w' := by
  have HA : Hid _ := ha
  have HLA : Hid _ := hla
  have HLB : Hid _ := hlb
  clear ha hla hlb
  go_enter Tryz.func57, Tryz.ntmps57
  go_wp2_with fail
  go_loopw [8, 9] (fun v j wr => ∃ k : Nat, k ≤ n ∧ j = .int .i64 (k : Int) ∧ OwnI wr w.heap.size v ((List.range k).map (timesC n xs ys q)) ∧ Up w wr) (fun _ j _ => n - (intOf j).toNat)
  case atStart => exact ⟨0, Nat.zero_le _, rfl, World.ownsRow_nil _ _ _ _, Up.refl _⟩
  case round =>
    obtain ⟨k, hk, rfl, hown, hu⟩ := hrel
    by_cases hlt : k < n
    · have HR : Hid ((List.range (k + 1)).map (timesC n xs ys q) = (List.range k).map (timesC n xs ys q) ++ [sumI (negT n xs ys k) n % q]) := map_range_succ _ _
      go_wp2_with fail
      go_loopw [10, 11] (fun s z wx => ∃ i : Nat, i ≤ n ∧ z = .int .i64 (i : Int) ∧ s = .int .i64 (sumI (negT n xs ys k) i % q) ∧ Up wr wx) (fun _ z _ => n - (intOf z).toNat)
      case atStart => exact ⟨0, Nat.zero_le _, rfl, by simp [sumI], Up.refl _⟩
      case round =>
        obtain ⟨i, hi, rfl, rfl, hux⟩ := hrel
        have hsb := mod_bounds hq (sumI (negT n xs ys k) i)
        by_cases hin : i < n
        · have hca := ((ia.up hu).up hux).2 i (by rw [HLA.out]; omega)
          have hba := HA.out i
          have hi0 : (0 : Int) ≤ (i : Int) := by omega
          have hi1 : (i : Int) < (n : Int) := by omega
          by_cases hik : i ≤ k
          · have hcb := ((ib.up hu).up hux).2 (k - i) (by rw [HLB.out]; omega)
            have HS : Hid _ := negT_step_le n xs ys q k i hik
            generalize xs.getD i 0 = x at hca hba HS
            generalize ys.getD (k - i) 0 = y at hcb HS
            generalize sumI (negT n xs ys k) i % q = S at hsb HS
            have hm := mod_bounds hq y
            have hmul := mul_in x (y % q) 1073741824 hba.1 hba.2 hm.1 (by omega) (by omega)
            have e0 : IntKind.i64.wrap ((k : Int) - (i : Int)) = ((k - i : Nat) : Int) := by rw [IntWalk.i64_in _ (by omega)]; omega
            have e1 : IntKind.i64.wrap (x * (y % q)) = x * (y % q) := IntWalk.i64_in _ (by omega)
            have e2 : IntKind.i64.wrap (S + x * (y % q)) = S + x * (y % q) := IntWalk.i64_in _ (by omega)
            have hj0 : (0 : Int) ≤ ((k - i : Nat) : Int) := by omega
            have hj1 : ((k - i : Nat) : Int) < (n : Int) := by omega
            go_wp2_with fail
            go_quiet ((go_at_call 65; exact Calls.quiet_of_same (Mod_calls _ _ _ (by omega) (by omega))))
            go_wp2_with fail
            go_roundw
            case rel => exact ⟨i + 1, by omega, by go_num, by rw [← HS.out], Up.drewN hux⟩
            case measure => simp [intOf]; omega
          · have hcb := ((ib.up hu).up hux).2 (n + k - i) (by rw [HLB.out]; omega)
            have HS : Hid _ := negT_step_gt n xs ys q k i hik
            generalize xs.getD i 0 = x at hca hba HS
            generalize ys.getD (n + k - i) 0 = y at hcb HS
            generalize sumI (negT n xs ys k) i % q = S at hsb HS
            have hm := mod_bounds hq y
            have hmul := mul_in x (y % q) 1073741824 hba.1 hba.2 hm.1 (by omega) (by omega)
            have e0 : IntKind.i64.wrap ((n : Int) + (k : Int)) = (n : Int) + (k : Int) := IntWalk.i64_in _ (by omega)
            have e3 : IntKind.i64.wrap ((n : Int) + (k : Int) - (i : Int)) = ((n + k - i : Nat) : Int) := by rw [IntWalk.i64_in _ (by omega)]; omega
            have e1 : IntKind.i64.wrap (x * (y % q)) = x * (y % q) := IntWalk.i64_in _ (by omega)
            have e2 : IntKind.i64.wrap (S - x * (y % q)) = S - x * (y % q) := IntWalk.i64_in _ (by omega)
            have hj0 : (0 : Int) ≤ ((n + k - i : Nat) : Int) := by omega
            have hj1 : ((n + k - i : Nat) : Int) < (n : Int) := by omega
            go_wp2_with fail
            go_quiet ((go_at_call 65; exact Calls.quiet_of_same (Mod_calls _ _ _ (by omega) (by omega))))
            go_wp2_with fail
            go_roundw
            case rel => exact ⟨i + 1, by omega, by go_num, by rw [← HS.out], Up.drewN hux⟩
            case measure => simp [intOf]; omega
        · obtain rfl : i = n := by omega
          generalize sumI (negT i xs ys k) i % q = S at hsb HR
          go_wp2_with (at_builtin; refine append_int _ _ rfl _ _ rfl _ _ _ rfl (hown.up hux) rfl (by simp; omega) (hu.trans hux).size ?_)
          intro v4 w4 hown4 hg4 hb4 _
          clear hown hg4
          go_wp2_with fail
          go_roundw
          case rel => exact ⟨k + 1, by omega, by go_num, by rw [HR.out]; exact hown4, Below.trans (hu.trans hux) hb4⟩
          case measure => simp [intOf]; omega
    · obtain rfl : k = n := by omega
      go_wp2_with fail
      go_ret
      exact ⟨_, rfl, hown, hu⟩

end Go.Proofs.YtjiekfplgmfgiabGreat

namespace Go.Proofs.YtjiekfplgmfgiabGreat
open Go.RowKit
set_option linter.unusedVariables false
set_option maxRecDepth 100000

/-- a drawn pair -/
def prA (l : List UInt8) (q : Int) (at0 i : Nat) : Int := (numL l (at0 + 4 * i) 4 : Int) % q
def prE (l : List UInt8) (n at0 i : Nat) : Int := (byteL l (at0 + 4 * n + i) : Int) % 5 - 2
def pairA (l : List UInt8) (q : Int) (n at0 : Nat) : List Int := (List.range n).map (prA l q at0)
def pairE (l : List UInt8) (n at0 : Nat) : List Int := (List.range n).map (prE l n at0)

theorem keep1 {B a k : Nat} {u : Value} {W W' : World} (hb : Below B W W') (h1 : a < B) (hS : W.cell? ⟨a, k, none⟩ = some u) : W'.cell? ⟨a, k, none⟩ = some u := (hb.cell (p := ⟨a, k, none⟩) h1).trans hS

/-- an append of one number at a step of a region that draws, and where it lies -/
theorem step_append_int2 {ops : Array Oper} {o : Oper} {a : Act} {K : Act → World → Prop} {Q : Exit → Act → World → Prop} {E : Prop} (W : World) (y : Int) (g : Nat) (hgd : o.guard = none) (s x : Operand)
    (ho : o.op = .call { callee := .builtin .append, args := #[s, x], argTypes := #[39, 39] })
    (base : Nat) (v : Value) (xs : List Int) (hs : a.eval s = v) (hown : OwnI W base v xs) (hx : a.eval x = .slice (some ⟨g, 0, none⟩) 1 1) (hc : W.cell? ⟨g, 0, none⟩ = some (.int .i64 y))
    (hlen : xs.length ≤ 1099511627776) (hbase : base ≤ W.heap.size)
    (h : ∀ v' w', OwnI w' base v' (xs ++ [y]) → W.grownBy w' v.ownBlock → Below base W w' → (v'.ownBlock = v.ownBlock ∨ ∃ g, v'.ownBlock = some g ∧ W.heap.size ≤ g) → K (a.put o.dst v') w') :
    if Region.wanted o (yielded ops a.tmps) = true then Oper.wp Tryz.prog o a W K Q else E := by
  have hw : Region.wanted o (yielded ops a.tmps) = true := by simp [Region.wanted, hgd]
  rw [if_pos hw]
  obtain ⟨i0, hi, hz0, hz1, hz2⟩ := info_parts info_int
  obtain ⟨v', w', hr, h2, h3, h4, h5⟩ := run_append_own_at (P := Tryz.prog) W base 39 o.type 3 i0 (.int .i64 0) 1 8 Tryz.underlying39 hi hz0 hz1 hz2 rfl (by decide) v xs.length (xs.map (Value.int .i64)) hown
    ⟨g, 0, none⟩ 1 1 [.int .i64 y] rfl (by
      intro j u hj
      match j, hj with
      | 0, hj => simp at hj; subst hj; simpa [Addr.add] using hc) (by intro u hu; simp at hu; subst hu; rfl) (by unfold maxLen; omega) (by omega) hbase
  unfold Oper.wp execOp
  simp only [ho, resolve, invoke, builtin, Sem.run_bind, Sem.run_pure, Result.andThen_ok, List.map_toArray, List.map_cons, List.map_nil, hs, hx, hr]
  refine h v' w' ?_ h3 ?_ ?_
  · simpa [OwnI] using h2
  · exact (Below.refl _ _).grown h3 hbase (fun k hk => (World.ownsRow.lt hown k hk).1)
  · rcases h5 with h5 | h5
    · exact Or.inl h5
    · exact Or.inr ⟨_, h5, Nat.le_refl _⟩

end Go.Proofs.YtjiekfplgmfgiabGreat
