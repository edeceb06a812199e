/-
  Walks: the reference's Plus, Scaled, Times.
  Walks: the reference's Pair, Secret, Digits.
  Walks: the reference's Secret, Digits.
  Walks: the reference's Cubed.
  Walks: the reference's hidden.
  Walks: the reference's Key and TurnKey.
-/
import Derived.Test.YtcjhgbljhpflfabGreatWalksY
import Derived.Test.YtcjhgbljhpflfabGreatMathE
namespace Go.Proofs.YtcjhgbljhpflfabGreat
open Go.RowKit
set_option linter.unusedVariables false
set_option maxRecDepth 100000

/-- all numbers lie from -m to m -/
def Bnd (xs : List Int) (m : Int) : Prop := ∀ i, -m ≤ xs.getD i 0 ∧ xs.getD i 0 ≤ m

set_option maxHeartbeats 2000000 in
theorem Plus_calls (n : Nat) (xs ys : List Int) (ga gb ca cb : Nat) (q : Int) (w : World) (hn : n ≤ 16) (hla : xs.length = n) (hlb : ys.length = n) (hq : 0 < q) (hq2 : q ≤ 1073741823) (ha : Bnd xs 4294967296) (hb : Bnd ys 4294967296) (ia : IsI w ga xs) (ib : IsI w gb ys) :
    Calls Tryz.prog 109 #[.slice (some ⟨ga, 0, none⟩) n ca, .slice (some ⟨gb, 0, none⟩) n cb, .int .i64 q] w fun e w' => ∃ v, e = .returned v ∧ OwnI w' w.heap.size v (plusI n xs ys q) ∧ Up w w' := by
  have HA : Hid _ := ha
  have HB : Hid _ := hb
  have HLA : Hid _ := hla
  have HLB : Hid _ := hlb
  have hga := ia.1
  have hgb := ib.1
  clear ha hb hla hlb
  go_enter Tryz.func109, Tryz.ntmps109
  go_wp2_with fail
  go_loopw [7, 8] (fun v j wr => ∃ k : Nat, k ≤ n ∧ j = .int .i64 (k : Int) ∧ OwnI wr w.heap.size v ((List.range k).map (plusC xs ys q)) ∧ Up w wr) (fun _ j _ => n - (intOf j).toNat)
  case atStart => exact ⟨0, Nat.zero_le _, rfl, World.ownsRow_nil _ _ _ _, Up.refl _⟩
  case round =>
    obtain ⟨k, hk, rfl, hown, hu⟩ := hrel
    by_cases hlt : k < n
    · have hca := (ia.up hu).2 k (by rw [HLA.out]; omega)
      have hcb := (ib.up hu).2 k (by rw [HLB.out]; omega)
      have hba := HA.out k
      have hbb := HB.out k
      have HR : Hid ((List.range (k + 1)).map (plusC xs ys q) = (List.range k).map (plusC xs ys q) ++ [(xs.getD k 0 + ys.getD k 0) % q]) := map_range_succ _ _
      generalize xs.getD k 0 = x at hca hba HR
      generalize ys.getD k 0 = y at hcb hbb HR
      have e1 : IntKind.i64.wrap (x + y) = x + y := IntWalk.i64_in _ (by omega)
      have hi0 : (0 : Int) ≤ (k : Int) := by omega
      have hi1 : (k : Int) < (n : Int) := by omega
      have hcn : (wr.alloc (.cells #[.int .i64 ((x + y) % q)] 3)).drew.cell? ⟨wr.heap.size, 0, none⟩ = some (.int .i64 ((x + y) % q)) := by simp
      have hbs := Nat.le_trans hu.size (Up.drew (Up.alloc (Up.refl wr) (.cells #[.int .i64 ((x + y) % q)] 3))).size
      go_wp2_with fail
      go_region_held3 (fun w' => w'.cell? ⟨ga, k, none⟩ = some (.int .i64 x) ∧ w'.cell? ⟨gb, k, none⟩ = some (.int .i64 y))
        (first | go_keep | exact keepS hb4 hga hgb (by assumption))
        ((first | (go_at_call 112; refine (Mod_calls _ _ _ (by omega) (by omega)).mono ?_; rintro e w' ⟨rfl, rfl⟩) | (refine step_append_int (wr.alloc (.cells #[.int .i64 ((x + y) % q)] 3)).drew ((x + y) % q) wr.heap.size rfl (.tmp 15) (.tmp 27) rfl _ u7 ((List.range k).map (plusC xs ys q)) rfl (hown.up (Up.drew (Up.alloc (Up.refl _) _))) rfl hcn (by simp; omega) hbs ?_; intro v4 w4 hown4 hg4 hb4)))
      clear hcn hbs hca hcb
      go_wp2_with fail
      go_roundw
      case rel => exact ⟨k + 1, by omega, by go_num, by rw [HR.out]; exact hown4, Below.trans (Up.drew (Below.alloc hu hu.size _)) hb4⟩
      case measure => simp [intOf]; omega
    · obtain rfl : k = n := by omega
      go_wp2_with fail
      go_ret
      exact ⟨_, rfl, hown, hu⟩

set_option maxHeartbeats 2000000 in
theorem Scaled_calls (n : Nat) (xs : List Int) (ga ca : Nat) (s q : Int) (w : World) (hn : n ≤ 16) (hla : xs.length = n) (hq : 0 < q) (hq2 : q ≤ 1073741823) (hs1 : -1073741824 ≤ s) (hs2 : s ≤ 1073741824) (ia : IsI w ga xs) :
    Calls Tryz.prog 111 #[.slice (some ⟨ga, 0, none⟩) n ca, .int .i64 s, .int .i64 q] w fun e w' => ∃ v, e = .returned v ∧ OwnI w' w.heap.size v (scaledI n xs s q) ∧ Up w w' := by
  have HLA : Hid _ := hla
  clear hla
  go_enter Tryz.func111, Tryz.ntmps111
  go_wp2_with fail
  go_loopw [7, 8] (fun v j wr => ∃ k : Nat, k ≤ n ∧ j = .int .i64 (k : Int) ∧ OwnI wr w.heap.size v ((List.range k).map (scaledC xs s q)) ∧ Up w wr) (fun _ j _ => n - (intOf j).toNat)
  case atStart => exact ⟨0, Nat.zero_le _, rfl, World.ownsRow_nil _ _ _ _, Up.refl _⟩
  case round =>
    obtain ⟨k, hk, rfl, hown, hu⟩ := hrel
    by_cases hlt : k < n
    · have hca := (ia.up hu).2 k (by rw [HLA.out]; omega)
      have HR : Hid ((List.range (k + 1)).map (scaledC xs s q) = (List.range k).map (scaledC xs s q) ++ [s * (xs.getD k 0 % q) % q]) := by
        show _ = _
        rw [mul_mod_right]
        exact map_range_succ _ _
      generalize xs.getD k 0 = x at hca HR
      have hm := mod_bounds hq x
      go_wp2_with fail
      refine (Mod_calls _ _ _ hq (by omega)).mono ?_
      rintro e w' ⟨rfl, rfl⟩
      generalize x % q = y at hm HR
      have h1 : s * y ≤ 1073741824 * 1073741824 := by
        rcases Int.le_total 0 s with h | h
        · exact Int.mul_le_mul hs2 (by omega) (by omega) (by omega)
        · have := Int.mul_nonneg (show 0 ≤ -s by omega) hm.1
          rw [Int.neg_mul] at this
          omega
      have h2 : -(1073741824 * 1073741824) ≤ s * y := by
        rcases Int.le_total 0 s with h | h
        · have := Int.mul_nonneg h hm.1
          omega
        · have : -s * y ≤ 1073741824 * 1073741824 := Int.mul_le_mul (by omega) (by omega) hm.1 (by omega)
          rw [Int.neg_mul] at this
          omega
      go_wp2_with fail
      refine (Mod_calls _ _ _ hq (by omega)).mono ?_
      rintro e w' ⟨rfl, rfl⟩
      go_wp2_with (at_builtin; refine append_int _ _ rfl _ _ rfl _ _ _ rfl hown rfl (by simp; omega) hu.size ?_)
      intro v4 w4 hown4 hg4 hb4 _
      clear hown hg4 hca
      go_wp2_with fail
      go_roundw
      case rel => exact ⟨k + 1, by omega, by go_num, by rw [HR.out]; exact hown4, Below.trans hu hb4⟩
      case measure => simp [intOf]; omega
    · obtain rfl : k = n := by omega
      go_wp2_with fail
      go_ret
      exact ⟨_, rfl, hown, hu⟩

theorem mul_in (a y m : Int) (ha1 : -m ≤ a) (ha2 : a ≤ m) (hy1 : 0 ≤ y) (hy2 : y ≤ m) (hm : 0 ≤ m) : -(m * m) ≤ a * y ∧ a * y ≤ m * m := by
  rcases Int.le_total 0 a with h | h
  · have h1 := Int.mul_nonneg h hy1
    have h2 : a * y ≤ m * m := Int.mul_le_mul ha2 hy2 hy1 hm
    have h3 := Int.mul_nonneg hm hm
    omega
  · have h1 := Int.mul_nonneg (show 0 ≤ -a by omega) hy1
    have h2 : -a * y ≤ m * m := Int.mul_le_mul (by omega) hy2 hy1 hm
    have h3 := Int.mul_nonneg hm hm
    rw [Int.neg_mul] at h1 h2
    omega

set_option maxHeartbeats 4000000 in
theorem Times_calls (n : Nat) (xs ys : List Int) (ga gb ca cb : Nat) (q : Int) (w : World) (hn : n ≤ 16) (hla : xs.length = n) (hlb : ys.length = n) (hq : 0 < q) (hq2 : q ≤ 1073741823) (ha : Bnd xs 1073741824) (ia : IsI w ga xs) (ib : IsI w gb ys) :
    Calls Tryz.prog 104 #[.slice (some ⟨ga, 0, none⟩) n ca, .slice (some ⟨gb, 0, none⟩) n cb, .int .i64 q] w fun e w' => ∃ v, e = .returned v ∧ OwnI w' w.heap.size v (timesI n xs ys q) ∧ Up w w' := by
  have HA : Hid _ := ha
  have HLA : Hid _ := hla
  have HLB : Hid _ := hlb
  clear ha hla hlb
  go_enter Tryz.func104, Tryz.ntmps104
  go_wp2_with fail
  go_loopw [8, 9] (fun v j wr => ∃ k : Nat, k ≤ n ∧ j = .int .i64 (k : Int) ∧ OwnI wr w.heap.size v ((List.range k).map (timesC n xs ys q)) ∧ Up w wr) (fun _ j _ => n - (intOf j).toNat)
  case atStart => exact ⟨0, Nat.zero_le _, rfl, World.ownsRow_nil _ _ _ _, Up.refl _⟩
  case round =>
    obtain ⟨k, hk, rfl, hown, hu⟩ := hrel
    by_cases hlt : k < n
    · have HR : Hid ((List.range (k + 1)).map (timesC n xs ys q) = (List.range k).map (timesC n xs ys q) ++ [sumI (negT n xs ys k) n % q]) := map_range_succ _ _
      go_wp2_with fail
      go_loopw [10, 11] (fun s z wx => ∃ i : Nat, i ≤ n ∧ z = .int .i64 (i : Int) ∧ s = .int .i64 (sumI (negT n xs ys k) i % q) ∧ Up wr wx) (fun _ z _ => n - (intOf z).toNat)
      case atStart => exact ⟨0, Nat.zero_le _, rfl, by simp [sumI], Up.refl _⟩
      case round =>
        obtain ⟨i, hi, rfl, rfl, hux⟩ := hrel
        have hsb := mod_bounds hq (sumI (negT n xs ys k) i)
        by_cases hin : i < n
        · have hca := ((ia.up hu).up hux).2 i (by rw [HLA.out]; omega)
          have hba := HA.out i
          have hi0 : (0 : Int) ≤ (i : Int) := by omega
          have hi1 : (i : Int) < (n : Int) := by omega
          by_cases hik : i ≤ k
          · have hcb := ((ib.up hu).up hux).2 (k - i) (by rw [HLB.out]; omega)
            have HS : Hid _ := negT_step_le n xs ys q k i hik
            generalize xs.getD i 0 = x at hca hba HS
            generalize ys.getD (k - i) 0 = y at hcb HS
            generalize sumI (negT n xs ys k) i % q = S at hsb HS
            have hm := mod_bounds hq y
            have hmul := mul_in x (y % q) 1073741824 hba.1 hba.2 hm.1 (by omega) (by omega)
            have e0 : IntKind.i64.wrap ((k : Int) - (i : Int)) = ((k - i : Nat) : Int) := by rw [IntWalk.i64_in _ (by omega)]; omega
            have e1 : IntKind.i64.wrap (x * (y % q)) = x * (y % q) := IntWalk.i64_in _ (by omega)
            have e2 : IntKind.i64.wrap (S + x * (y % q)) = S + x * (y % q) := IntWalk.i64_in _ (by omega)
            have hj0 : (0 : Int) ≤ ((k - i : Nat) : Int) := by omega
            have hj1 : ((k - i : Nat) : Int) < (n : Int) := by omega
            go_wp2_with fail
            go_quiet ((go_at_call 112; exact Calls.quiet_of_same (Mod_calls _ _ _ (by omega) (by omega))))
            go_wp2_with fail
            go_roundw
            case rel => exact ⟨i + 1, by omega, by go_num, by rw [← HS.out], Up.drewN hux⟩
            case measure => simp [intOf]; omega
          · have hcb := ((ib.up hu).up hux).2 (n + k - i) (by rw [HLB.out]; omega)
            have HS : Hid _ := negT_step_gt n xs ys q k i hik
            generalize xs.getD i 0 = x at hca hba HS
            generalize ys.getD (n + k - i) 0 = y at hcb HS
            generalize sumI (negT n xs ys k) i % q = S at hsb HS
            have hm := mod_bounds hq y
            have hmul := mul_in x (y % q) 1073741824 hba.1 hba.2 hm.1 (by omega) (by omega)
            have e0 : IntKind.i64.wrap ((n : Int) + (k : Int)) = (n : Int) + (k : Int) := IntWalk.i64_in _ (by omega)
            have e3 : IntKind.i64.wrap ((n : Int) + (k : Int) - (i : Int)) = ((n + k - i : Nat) : Int) := by rw [IntWalk.i64_in _ (by omega)]; omega
            have e1 : IntKind.i64.wrap (x * (y % q)) = x * (y % q) := IntWalk.i64_in _ (by omega)
            have e2 : IntKind.i64.wrap (S - x * (y % q)) = S - x * (y % q) := IntWalk.i64_in _ (by omega)
            have hj0 : (0 : Int) ≤ ((n + k - i : Nat) : Int) := by omega
            have hj1 : ((n + k - i : Nat) : Int) < (n : Int) := by omega
            go_wp2_with fail
            go_quiet ((go_at_call 112; exact Calls.quiet_of_same (Mod_calls _ _ _ (by omega) (by omega))))
            go_wp2_with fail
            go_roundw
            case rel => exact ⟨i + 1, by omega, by go_num, by rw [← HS.out], Up.drewN hux⟩
            case measure => simp [intOf]; omega
        · obtain rfl : i = n := by omega
          generalize sumI (negT i xs ys k) i % q = S at hsb HR
          go_wp2_with (at_builtin; refine append_int _ _ rfl _ _ rfl _ _ _ rfl (hown.up hux) rfl (by simp; omega) (hu.trans hux).size ?_)
          intro v4 w4 hown4 hg4 hb4 _
          clear hown hg4
          go_wp2_with fail
          go_roundw
          case rel => exact ⟨k + 1, by omega, by go_num, by rw [HR.out]; exact hown4, Below.trans (hu.trans hux) hb4⟩
          case measure => simp [intOf]; omega
    · obtain rfl : k = n := by omega
      go_wp2_with fail
      go_ret
      exact ⟨_, rfl, hown, hu⟩

end Go.Proofs.YtcjhgbljhpflfabGreat

namespace Go.Proofs.YtcjhgbljhpflfabGreat
open Go.RowKit
set_option linter.unusedVariables false
set_option maxRecDepth 100000

/-- a drawn pair -/
def prA (l : List UInt8) (q : Int) (at0 i : Nat) : Int := (numL l (at0 + 4 * i) 4 : Int) % q
def prE (l : List UInt8) (n at0 i : Nat) : Int := (byteL l (at0 + 4 * n + i) : Int) % 5 - 2
def pairA (l : List UInt8) (q : Int) (n at0 : Nat) : List Int := (List.range n).map (prA l q at0)
def pairE (l : List UInt8) (n at0 : Nat) : List Int := (List.range n).map (prE l n at0)

theorem keep1 {B a k : Nat} {u : Value} {W W' : World} (hb : Below B W W') (h1 : a < B) (hS : W.cell? ⟨a, k, none⟩ = some u) : W'.cell? ⟨a, k, none⟩ = some u := (hb.cell (p := ⟨a, k, none⟩) h1).trans hS

/-- an append of one number at a step of a region that draws, and where it lies -/
theorem step_append_int2 {ops : Array Oper} {o : Oper} {a : Act} {K : Act → World → Prop} {Q : Exit → Act → World → Prop} {E : Prop} (W : World) (y : Int) (g : Nat) (hgd : o.guard = none) (s x : Operand)
    (ho : o.op = .call { callee := .builtin .append, args := #[s, x], argTypes := #[54, 54] })
    (base : Nat) (v : Value) (xs : List Int) (hs : a.eval s = v) (hown : OwnI W base v xs) (hx : a.eval x = .slice (some ⟨g, 0, none⟩) 1 1) (hc : W.cell? ⟨g, 0, none⟩ = some (.int .i64 y))
    (hlen : xs.length ≤ 1099511627776) (hbase : base ≤ W.heap.size)
    (h : ∀ v' w', OwnI w' base v' (xs ++ [y]) → W.grownBy w' v.ownBlock → Below base W w' → (v'.ownBlock = v.ownBlock ∨ ∃ g, v'.ownBlock = some g ∧ W.heap.size ≤ g) → K (a.put o.dst v') w') :
    if Region.wanted o (yielded ops a.tmps) = true then Oper.wp Tryz.prog o a W K Q else E := by
  have hw : Region.wanted o (yielded ops a.tmps) = true := by simp [Region.wanted, hgd]
  rw [if_pos hw]
  obtain ⟨i0, hi, hz0, hz1, hz2⟩ := info_parts info_int
  obtain ⟨v', w', hr, h2, h3, h4, h5⟩ := run_append_own_at (P := Tryz.prog) W base 54 o.type 3 i0 (.int .i64 0) 1 8 Tryz.underlying54 hi hz0 hz1 hz2 rfl (by decide) v xs.length (xs.map (Value.int .i64)) hown
    ⟨g, 0, none⟩ 1 1 [.int .i64 y] rfl (by
      intro j u hj
      match j, hj with
      | 0, hj => simp at hj; subst hj; simpa [Addr.add] using hc) (by intro u hu; simp at hu; subst hu; rfl) (by unfold maxLen; omega) (by omega) hbase
  unfold Oper.wp execOp
  simp only [ho, resolve, invoke, builtin, Sem.run_bind, Sem.run_pure, Result.andThen_ok, List.map_toArray, List.map_cons, List.map_nil, hs, hx, hr]
  refine h v' w' ?_ h3 ?_ ?_
  · simpa [OwnI] using h2
  · exact (Below.refl _ _).grown h3 hbase (fun k hk => (World.ownsRow.lt hown k hk).1)
  · rcases h5 with h5 | h5
    · exact Or.inl h5
    · exact Or.inr ⟨_, h5, Nat.le_refl _⟩

set_option maxHeartbeats 2000000 in
theorem Pair_calls (n at0 : Nat) (t q b : Int) (s : ByteArray) (w : World) (hs : s.size ≤ maxLen) (hn : n ≤ 16) (hat : at0 ≤ 1048576) (hq : 0 < q) (hq2 : q ≤ 1073741823) :
    Calls Tryz.prog 171 #[.agg #[.int .i64 n, .int .i64 t, .int .i64 q, .int .i64 b], .string s, .int .i64 at0] w fun e w' => ∃ va ve, e = .returned (.tuple #[va, ve]) ∧ OwnI w' w.heap.size va (pairA s.data.toList q n at0) ∧ OwnI w' w.heap.size ve (pairE s.data.toList n at0) ∧ Up w w' := by
  go_enter Tryz.func171, Tryz.ntmps171
  go_wp2_with fail
  go_loopw [8, 9, 10] (fun va ve j wr => ∃ k : Nat, k ≤ n ∧ j = .int .i64 (k : Int) ∧ OwnI wr (w.heap.size + 1) va ((List.range k).map (prA s.data.toList q at0)) ∧ OwnI wr (w.heap.size + 1) ve ((List.range k).map (prE s.data.toList n at0)) ∧ Apart va ve ∧ Up (w.alloc (.cells #[.int .i64 n, .int .i64 t, .int .i64 q, .int .i64 b] 23)) wr) (fun _ _ j _ => n - (intOf j).toNat)
  case atStart => exact ⟨0, Nat.zero_le _, rfl, World.ownsRow_nil _ _ _ _, World.ownsRow_nil _ _ _ _, Or.inl rfl, Up.refl _⟩
  case round =>
    obtain ⟨k, hk, rfl, hoa, hoe, hap, hu⟩ := hrel
    obtain ⟨hc, hf⟩ := bcell hu
    by_cases hlt : k < n
    · have hsz : w.heap.size + 1 ≤ wr.heap.size := by have := hu.size; simpa using this
      have hct : wr.cell? ⟨w.heap.size, 2, none⟩ = some (.int .i64 q) := by rw [hc _ _ (by simp)]; simp
      have hbx : w.heap.size < w.heap.size + 1 := by omega
      have hnl := numL_le5 s.data.toList (at0 + 4 * k) 4 (by omega)
      have HRA : Hid ((List.range (k + 1)).map (prA s.data.toList q at0) = (List.range k).map (prA s.data.toList q at0) ++ [(numL s.data.toList (at0 + 4 * k) 4 : Int) % q]) := map_range_succ _ _
      have HRE : Hid ((List.range (k + 1)).map (prE s.data.toList n at0) = (List.range k).map (prE s.data.toList n at0) ++ [(byteL s.data.toList (at0 + 4 * n + k) : Int) % 5 - 2]) := map_range_succ _ _
      have hnum : ∀ W, Calls Tryz.prog 99 #[.string s, .int .i64 ((at0 : Int) + 4 * (k : Int)), .int .i64 4] W fun e w' => e = .returned (.int .i64 (numL s.data.toList (at0 + 4 * k) 4)) ∧ w' = W := fun W => by
        have := Number_calls s ((at0 : Int) + 4 * (k : Int)) 4 W hs (by omega) (by omega) (by omega)
        rw [show ((at0 : Int) + 4 * (k : Int)).toNat = at0 + 4 * k from by omega] at this
        exact this
      have HN : Hid _ := hnum
      clear hnum
      generalize hx : numL s.data.toList (at0 + 4 * k) 4 = x at hnl HRA HN
      clear hx
      have e1 : IntKind.i64.wrap (4 * (k : Int)) = 4 * (k : Int) := IntWalk.i64_in _ (by omega)
      have e2 : IntKind.i64.wrap ((at0 : Int) + 4 * (k : Int)) = (at0 : Int) + 4 * (k : Int) := IntWalk.i64_in _ (by omega)
      have e3 : (x : Int).tmod q = (x : Int) % q := Int.tmod_eq_emod_of_nonneg (by omega)
      have hq0 : (q == 0) = false := beq_eq_false_iff_ne.2 (by omega)
      have hq1 : ¬ q = 0 := by omega
      have hcn : (wr.alloc (.cells #[.int .i64 ((x : Int) % q)] 3)).drew.cell? ⟨wr.heap.size, 0, none⟩ = some (.int .i64 ((x : Int) % q)) := by simp
      have hbs := Nat.le_trans hsz (Up.drew (Up.alloc (Up.refl wr) (.cells #[.int .i64 ((x : Int) % q)] 3))).size
      go_wp2_with fail
      go_region_held3 (fun w' => w'.cell? ⟨w.heap.size, 2, none⟩ = some (.int .i64 q))
        (first | go_keep | exact keep1 hb4 hbx (by assumption))
        ((first | (go_at_call 99; refine Calls.mono (HN.out _) ?_; rintro e w' ⟨rfl, rfl⟩) | (refine step_append_int2 (wr.alloc (.cells #[.int .i64 ((x : Int) % q)] 3)).drew ((x : Int) % q) wr.heap.size rfl (.tmp 17) (.tmp 27) rfl _ u8 ((List.range k).map (prA s.data.toList q at0)) rfl (hoa.up (Up.drew (Up.alloc (Up.refl _) _))) rfl hcn (by simp; omega) hbs ?_; intro v4 w4 hown4 hg4 hb4 hob4)))
      have hoeW := hoe.up (Up.drew (Up.alloc (Up.refl wr) (.cells #[.int .i64 ((x : Int) % q)] 3)))
      have hoe1 := hoeW.kept hg4 hap.symm.keeps
      have hap1 : Apart v4 u9 := hap.grown hoeW hob4
      have hu4 : Up (w.alloc (.cells #[.int .i64 n, .int .i64 t, .int .i64 q, .int .i64 b] 23)) w4 := Below.trans (Up.drew (Below.alloc hu hu.size _)) (by simpa using hb4)
      clear hoa hoe hap hg4 hb4 hob4 hoeW hcn hbs hct hc hf HN
      obtain ⟨hc, hf⟩ := bcell hu4
      have hsz4 : w.heap.size + 1 ≤ w4.heap.size := by have := hu4.size; simpa using this
      have hbl := byteL_lt s.data.toList (at0 + 4 * n + k)
      go_wp2_with fail
      refine (Byte_calls _ _ _ hs (by omega)).mono ?_
      rintro e w' ⟨rfl, rfl⟩
      rw [show ((at0 : Int) + 4 * (n : Int) + (k : Int)).toNat = at0 + 4 * n + k from by omega]
      generalize byteL s.data.toList (at0 + 4 * n + k) = y at hbl HRE
      go_wp2_with (at_builtin; refine append_int _ _ rfl (.tmp 29) (.tmp 41) rfl _ _ _ rfl hoe1 rfl (by simp; omega) hsz4 ?_)
      intro v5 w5 hown5 hg5 hb5 hob5
      have hoa2 := hown4.kept hg5 hap1.keeps
      have hap2 : Apart v4 v5 := (hap1.symm.grown hown4 hob5).symm
      have hu5 : Up (w.alloc (.cells #[.int .i64 n, .int .i64 t, .int .i64 q, .int .i64 b] 23)) w5 := Below.trans hu4 (by simpa using hb5)
      clear hown4 hoe1 hap1 hg5 hb5 hob5 hc hf
      go_wp2_with fail
      go_roundw
      case rel => exact ⟨k + 1, by omega, by go_num, by rw [HRA.out]; exact hoa2, by rw [HRE.out]; exact hown5, hap2, hu5⟩
      case measure => simp [intOf]; omega
    · obtain rfl : k = n := by omega
      go_wp2_with fail
      go_ret2
      exact ⟨_, _, rfl, hoa.base (by omega), hoe.base (by omega), ((Up.refl _).alloc _).trans hu⟩

end Go.Proofs.YtcjhgbljhpflfabGreat

namespace Go.Proofs.YtcjhgbljhpflfabGreat
open Go.RowKit
set_option linter.unusedVariables false
set_option maxRecDepth 100000

/-- is the text a key? -/
def secB (l : List UInt8) (n : Nat) : Bool := decide (l.length = n + 1) && decide (byteL l 0 = 75) && okL l.tail n 1 3
def secI (l : List UInt8) (n : Nat) : List Int := (List.range n).map fun i => (byteL l (i + 1) : Int) - 1

set_option maxHeartbeats 1000000 in
theorem Digits_calls (L : Nat) (n t q b : Int) (w : World) (hq : 2 ≤ q) (hq2 : q ≤ 1073741823) (hb : 1 ≤ b) (hb2 : b ≤ 8) (h1 : q ≤ 2 ^ (b.toNat * L)) (h2 : ∀ j, j < L → (2 : Int) ^ (b.toNat * j) < q) :
    Calls Tryz.prog 100 #[.agg #[.int .i64 n, .int .i64 t, .int .i64 q, .int .i64 b]] w fun e w' => e = .returned (.int .i64 L) ∧ Up w w' := by
  have H1 : Hid _ := h1
  have H2 : Hid _ := h2
  clear h1 h2
  have hpow : (2 : Int) ^ b.toNat % 1048576 = 2 ^ b.toNat ∧ (2 : Int) ^ b.toNat ≤ 256 ∧ 2 ≤ (2 : Int) ^ b.toNat := by
    obtain ⟨m, rfl⟩ := Int.eq_ofNat_of_zero_le (a := b) (by omega)
    rw [Int.toNat_natCast]
    have h1 : 1 ≤ m := by omega
    have h2 : m ≤ 8 := by omega
    clear hb hb2 H1 H2
    rcases (show m = 1 ∨ m = 2 ∨ m = 3 ∨ m = 4 ∨ m = 5 ∨ m = 6 ∨ m = 7 ∨ m = 8 from by omega) with rfl | rfl | rfl | rfl | rfl | rfl | rfl | rfl <;> decide
  have hL : L ≤ 30 := by
    rcases Nat.lt_or_ge 30 L with h | h
    · exfalso
      have h3 := H2.out 30 h
      have h4 : (2 : Int) ^ (1 * 30) ≤ 2 ^ (b.toNat * 30) := by
        have : (2 : Nat) ^ (1 * 30) ≤ 2 ^ (b.toNat * 30) := Nat.pow_le_pow_right (by omega) (Nat.mul_le_mul_right _ (by omega))
        exact_mod_cast this
      have h5 : (2 : Int) ^ (1 * 30) = 1073741824 := by decide
      omega
    · exact h
  have HP : Hid _ := hpow.1
  have hp2 := hpow.2.1
  have hp3 := hpow.2.2
  have HS : Hid (∀ k : Nat, (2 : Int) ^ (b.toNat * k) * 2 ^ b.toNat = 2 ^ (b.toNat * (k + 1))) := fun k => by
    rw [← Int.pow_add, Nat.mul_succ]
  have HB : Hid (∀ k : Nat, 1 ≤ (2 : Int) ^ (b.toNat * k)) := fun k => by
    have : 1 ≤ (2 : Nat) ^ (b.toNat * k) := Nat.one_le_two_pow
    exact_mod_cast this
  clear hpow
  go_enter Tryz.func100, Tryz.ntmps100
  go_wp2_with fail
  go_loop [3, 4] (fun x y => ∃ k : Nat, k ≤ L ∧ x = .int .i64 (k : Int) ∧ y = .int .i64 (2 ^ (b.toNat * k))) (fun x _ => L - (intOf x).toNat)
  case atStart => exact ⟨0, Nat.zero_le _, rfl, by simp⟩
  case round =>
    obtain ⟨k, hk, rfl, rfl⟩ := hrel
    have hb1 := HB.out k
    by_cases hlt : k < L
    · have hlt2 := H2.out k hlt
      have HS1 : Hid _ := HS.out k
      generalize (2 : Int) ^ (b.toNat * k) = v at hb1 hlt2 HS1
      go_wp2_with fail
      refine (raised_calls _ _ _ _ (by omega) (by omega) (by omega) (by omega) (by omega) (by omega)).mono ?_
      rintro e w' ⟨rfl, rfl⟩
      rw [HP.out]
      generalize (2 : Int) ^ b.toNat = p at hp2 hp3 HS1
      have h3 : 0 ≤ v * p := Int.mul_nonneg (by omega) (by omega)
      have h4 : v * p ≤ 1073741823 * 256 := Int.mul_le_mul (by omega) (by omega) (by omega) (by omega)
      go_wp2_with fail
      go_round
      case rel => exact ⟨k + 1, by omega, by go_num, by rw [← HS1.out]⟩
      case measure => simp [intOf]; omega
    · obtain rfl : k = L := by omega
      have hge := H1.out
      generalize (2 : Int) ^ (b.toNat * k) = v at hb1 hge
      go_wp2_with fail
      go_ret
      exact ⟨rfl, (Up.refl _).alloc _⟩

set_option maxHeartbeats 1000000 in
theorem Secret_no1 (n : Nat) (t q b : Int) (s : ByteArray) (w : World) (hs : s.size ≤ maxLen) (hn : n ≤ 16) (hok : s.size ≠ n + 1) :
    Calls Tryz.prog 114 #[.agg #[.int .i64 n, .int .i64 t, .int .i64 q, .int .i64 b], .string s] w fun e w' => e = .returned (.tuple #[.slice none 0 0, .bool false]) ∧ Up w w' := by
  have hne : ((s.size : Int) != (n : Int) + 1) = true := by rw [bne_iff_ne]; omega
  go_enter Tryz.func114, Tryz.ntmps114
  go_wp2_with fail
  go_ret2
  exact ⟨rfl, (Up.refl _).alloc _⟩

set_option maxHeartbeats 1000000 in
theorem Secret_no2 (n : Nat) (t q b : Int) (s : ByteArray) (w : World) (hs : s.size ≤ maxLen) (hn : n ≤ 16) (hl : s.size = n + 1) (hok : byteL s.data.toList 0 ≠ 75) :
    Calls Tryz.prog 114 #[.agg #[.int .i64 n, .int .i64 t, .int .i64 q, .int .i64 b], .string s] w fun e w' => e = .returned (.tuple #[.slice none 0 0, .bool false]) ∧ Up w w' := by
  have hne : ((s.size : Int) != (n : Int) + 1) = false := by rw [hl]; simp
  have h0 : 0 < s.size := by omega
  rw [byteL_in s 0 h0] at hok
  have hne2 : (((s[0]'h0).toNat : Int) != 75) = true := by rw [bne_iff_ne]; omega
  have HL : Hid _ := hl
  clear hl hok
  go_enter Tryz.func114, Tryz.ntmps114
  go_wp2_with fail
  go_ret2
  exact ⟨rfl, (Up.refl _).alloc _⟩

theorem ext_list (s : ByteArray) (i j : Nat) (hj : j ≤ s.size) : (s.extract i j).data.toList = (s.data.toList.take j).drop i := by
  have e : (s.extract i j).data = s.data.extract i j := by simp
  rw [e, Array.toList_extract, List.extract_eq_take_drop, List.drop_take]

theorem ext_tail (s : ByteArray) : (s.extract 1 s.size).data.toList = s.data.toList.tail := by
  rw [ext_list s 1 s.size (Nat.le_refl _)]
  have : s.data.toList.take s.size = s.data.toList := List.take_of_length_le (by simp)
  rw [this, List.drop_one]

theorem set_range (f h : Nat → Int) (n k : Nat) (hk : k < n) : ((List.range n).map f).set k (h k) = (List.range n).map (fun i => if i = k then h k else f i) := by
  apply List.ext_getElem
  · simp
  · intro i h1 h2
    simp only [List.getElem_set, List.getElem_map, List.getElem_range]
    by_cases e : k = i
    · subst e; simp
    · rw [if_neg e, if_neg (fun c => e c.symm)]

/-- a store into an owned list -/
theorem OwnI.stored {w : World} {base g cap n : Nat} {f : Nat → Int} (h : OwnI w base (.slice (some ⟨g, 0, none⟩) n cap) ((List.range n).map f)) (k : Nat) (hk : k < n) (x : Int) :
    OwnI (w.setCell ⟨g, k, none⟩ (.int .i64 x)) base (.slice (some ⟨g, 0, none⟩) n cap) ((List.range n).map (fun i => if i = k then x else f i)) ∧ Below base w (w.setCell ⟨g, k, none⟩ (.int .i64 x)) := by
  have hlen : ((List.range n).map f).length = n := by simp
  have h' : w.ownsRow base 3 1 (.slice (some ⟨g, 0, none⟩) n cap) n (((List.range n).map f).map (Value.int .i64)) := by
    have := h
    unfold OwnI at this
    rw [hlen] at this
    exact this
  obtain ⟨h1, h2⟩ := World.ownsRow.stored h' k (.int .i64 x)
  refine ⟨?_, ?_⟩
  · have e : (((List.range n).map f).map (Value.int .i64)).set k (.int .i64 x) = ((List.range n).map (fun i => if i = k then x else f i)).map (Value.int .i64) := by
      rw [← List.map_set, set_range f (fun _ => x) n k hk]
    rw [e] at h1
    unfold OwnI
    have hl2 : ((List.range n).map (fun i => if i = k then x else f i)).length = n := by simp
    rw [hl2]
    exact h1
  · exact (Below.refl _ _).setCell (p := ⟨g, k, none⟩) (h.block_lt.1) _

theorem OwnI.cellAt {w : World} {base g cap n : Nat} {f : Nat → Int} (h : OwnI w base (.slice (some ⟨g, 0, none⟩) n cap) ((List.range n).map f)) (k : Nat) (hk : k < n) :
    w.cell? ⟨g, k, none⟩ = some (.int .i64 (f k)) ∧ w.frozen? ⟨g, k, none⟩ = false := by
  have hlen : ((List.range n).map f).length = n := by simp
  have h' : w.ownsRow base 3 1 (.slice (some ⟨g, 0, none⟩) n cap) n (((List.range n).map f).map (Value.int .i64)) := by
    have := h
    unfold OwnI at this
    rw [hlen] at this
    exact this
  refine ⟨?_, World.ownsRow.frozenAt h' k⟩
  rw [World.ownsRow.cellAt h' k (by omega)]
  simp [hk]

theorem numsL_range (l : List UInt8) (size n : Nat) : numsL l size n = (List.range n).map fun i => (numL l (i * size) size : Int) := by
  induction n with
  | zero => rfl
  | succ n ih => rw [numsL, ih, map_range_succ]

theorem byteL_tail (l : List UInt8) (i : Nat) : byteL l.tail i = byteL l (i + 1) := by
  unfold byteL
  cases l <;> simp

set_option maxHeartbeats 2000000 in
theorem Secret_yes (n : Nat) (t q b : Int) (s : ByteArray) (w : World) (hs : s.size ≤ maxLen) (hn : n ≤ 16) (hn1 : 1 ≤ n) (hl : s.size = n + 1) (hok : byteL s.data.toList 0 = 75) (hls : okL s.data.toList.tail n 1 3 = true) :
    Calls Tryz.prog 114 #[.agg #[.int .i64 n, .int .i64 t, .int .i64 q, .int .i64 b], .string s] w fun e w' => ∃ v, e = .returned (.tuple #[v, .bool true]) ∧ OwnI w' w.heap.size v (secI s.data.toList n) ∧ Up w w' := by
  have hne : ((s.size : Int) != (n : Int) + 1) = false := by rw [hl]; simp
  have h0 : 0 < s.size := by omega
  have h1 : (1 : Int) ≤ (s.size : Int) := by omega
  rw [byteL_in s 0 h0] at hok
  have hne2 : (((s[0]'h0).toNat : Int) != 75) = false := by rw [hok]; rfl
  have HL : Hid _ := hl
  have hlist : ∀ W, Calls Tryz.prog 98 #[.string (s.extract 1 s.size), .int .i64 n, .int .i64 1, .int .i64 3] W fun e w' => ∃ g cap, e = .returned (.tuple #[.slice (some ⟨g, 0, none⟩) n cap, .bool true]) ∧ OwnI w' W.heap.size (.slice (some ⟨g, 0, none⟩) n cap) ((List.range n).map fun i => (byteL s.data.toList (i + 1) : Int)) ∧ Up W w' := fun W => by
    have hc := List_ok (s.extract 1 s.size) n 1 3 W (by simp; omega) (by omega) (by omega) (by rw [ext_tail]; exact hls)
    refine hc.mono ?_
    rintro e w' ⟨v, rfl, hown, hu⟩
    obtain ⟨g, cap, rfl, _, _⟩ := hown.is (ne_nil_of_length (numsL_length _ _ _) (by omega))
    rw [numsL_length] at hown ⊢
    refine ⟨g, cap, rfl, ?_, hu⟩
    have e2 : numsL (s.extract 1 s.size).data.toList 1 n = (List.range n).map fun i => (byteL s.data.toList (i + 1) : Int) := by
      rw [numsL_range, ext_tail]
      refine List.map_congr_left fun i _ => ?_
      simp only [numL, Nat.mul_one, Nat.mul_zero, Nat.zero_add, Nat.add_zero, byteL_tail]
    rw [e2] at hown
    exact hown
  have HLI : Hid _ := hlist
  clear hl hok hlist hls
  go_enter Tryz.func114, Tryz.ntmps114
  go_wp2_with fail
  go_region_with ((go_at_call 98; refine Calls.mono (HLI.out _) ?_; rintro e w' ⟨g, cap, rfl, hown, hu⟩))
  all_goals
    go_wp2_with fail
    go_loopw [8] (fun j wr => ∃ k : Nat, k ≤ n ∧ j = .int .i64 (k : Int) ∧ OwnI wr (w.heap.size + 1) (.slice (some ⟨g, 0, none⟩) n cap) ((List.range n).map fun i => if i < k then (byteL s.data.toList (i + 1) : Int) - 1 else (byteL s.data.toList (i + 1) : Int)) ∧ Below (w.heap.size + 1) (w.alloc (.cells #[.int .i64 n, .int .i64 t, .int .i64 q, .int .i64 b] 23)) wr) (fun j _ => n - (intOf j).toNat)
    case atStart => exact ⟨0, Nat.zero_le _, rfl, by simpa using hown, Below.trans (Below.drew (Below.refl _ _)) (by simpa [Up] using hu)⟩
    case round =>
      obtain ⟨k, hk, rfl, hownr, hbr⟩ := hrel
      by_cases hlt : k < n
      · obtain ⟨hck, hfk⟩ := hownr.cellAt k hlt
        rw [if_neg (Nat.lt_irrefl k)] at hck
        have hbl := byteL_lt s.data.toList (k + 1)
        have hst := hownr.stored k hlt ((byteL s.data.toList (k + 1) : Int) - 1)
        have HC : Hid ((List.range n).map (fun i => if i = k then (byteL s.data.toList (k + 1) : Int) - 1 else if i < k then (byteL s.data.toList (i + 1) : Int) - 1 else (byteL s.data.toList (i + 1) : Int)) = (List.range n).map fun i => if i < k + 1 then (byteL s.data.toList (i + 1) : Int) - 1 else (byteL s.data.toList (i + 1) : Int)) := by
          refine List.map_congr_left fun i _ => ?_
          by_cases e : i = k
          · subst e; rw [if_pos rfl, if_pos (Nat.lt_succ_self i)]
          · rw [if_neg e]
            by_cases e2 : i < k
            · rw [if_pos e2, if_pos (by omega)]
            · rw [if_neg e2, if_neg (by omega)]
        rw [HC.out] at hst
        have HST : Hid _ := hst
        clear hst HC hownr
        generalize (byteL s.data.toList (k + 1)) = y at hck hbl HST
        go_wp2_with fail
        go_roundw
        case rel => exact ⟨k + 1, by omega, by go_num, HST.out.1, Below.trans hbr HST.out.2⟩
        case measure => simp [intOf]; omega
      · obtain rfl : k = n := by omega
        go_wp2_with fail
        go_ret2
        refine ⟨_, rfl, ?_, Up.trans ((Up.refl _).alloc _) (by simpa [Up] using hbr)⟩
        have e : secI s.data.toList k = (List.range k).map fun i => if i < k then (byteL s.data.toList (i + 1) : Int) - 1 else (byteL s.data.toList (i + 1) : Int) := by
          refine List.map_congr_left fun i hi => ?_
          rw [if_pos (List.mem_range.1 hi)]
        rw [e]
        exact hownr.base (by omega)

theorem secB_iff (l : List UInt8) (n : Nat) : secB l n = true ↔ l.length = n + 1 ∧ byteL l 0 = 75 ∧ okL l.tail n 1 3 = true := by
  unfold secB
  simp [and_assoc]

set_option maxHeartbeats 2000000 in
theorem Secret_no3 (n : Nat) (t q b : Int) (s : ByteArray) (w : World) (hs : s.size ≤ maxLen) (hn : n ≤ 16) (hl : s.size = n + 1) (hok : byteL s.data.toList 0 = 75) (hls : okL s.data.toList.tail n 1 3 = false) :
    Calls Tryz.prog 114 #[.agg #[.int .i64 n, .int .i64 t, .int .i64 q, .int .i64 b], .string s] w fun e w' => e = .returned (.tuple #[.slice none 0 0, .bool false]) ∧ Up w w' := by
  have hne : ((s.size : Int) != (n : Int) + 1) = false := by rw [hl]; simp
  have h0 : 0 < s.size := by omega
  have h1 : (1 : Int) ≤ (s.size : Int) := by omega
  rw [byteL_in s 0 h0] at hok
  have hne2 : (((s[0]'h0).toNat : Int) != 75) = false := by rw [hok]; rfl
  have HL : Hid _ := hl
  have hlist : ∀ W, Calls Tryz.prog 98 #[.string (s.extract 1 s.size), .int .i64 n, .int .i64 1, .int .i64 3] W fun e w' => e = .returned (.tuple #[.slice none 0 0, .bool false]) ∧ Up W w' := fun W =>
    List_no (s.extract 1 s.size) n 1 3 W (by simp; omega) (by omega) (by omega) (by rw [ext_tail]; exact hls)
  have HLI : Hid _ := hlist
  clear hl hok hlist hls
  go_enter Tryz.func114, Tryz.ntmps114
  go_wp2_with fail
  go_region_with ((go_at_call 98; refine Calls.mono (HLI.out _) ?_; rintro e w' ⟨rfl, hu⟩))
  all_goals
    go_wp2_with fail
    refine wp_loop_rounds 1 ?_
    rw [rounds_succ]
    go_wp2_with fail
    go_ret2
    exact ⟨rfl, Up.trans (Up.drew ((Up.refl _).alloc _)) hu⟩

theorem Secret_no (n : Nat) (t q b : Int) (s : ByteArray) (w : World) (hs : s.size ≤ maxLen) (hn : n ≤ 16) (h : secB s.data.toList n = false) :
    Calls Tryz.prog 114 #[.agg #[.int .i64 n, .int .i64 t, .int .i64 q, .int .i64 b], .string s] w fun e w' => e = .returned (.tuple #[.slice none 0 0, .bool false]) ∧ Up w w' := by
  by_cases h1 : s.size = n + 1
  · by_cases h2 : byteL s.data.toList 0 = 75
    · cases h3 : okL s.data.toList.tail n 1 3 with
      | false => exact Secret_no3 n t q b s w hs hn h1 h2 h3
      | true =>
        rw [(secB_iff _ _).2 ⟨by simpa using h1, h2, h3⟩] at h
        exact absurd h (by decide)
    · exact Secret_no2 n t q b s w hs hn h1 h2
  · exact Secret_no1 n t q b s w hs hn h1

theorem Secret_ok (n : Nat) (t q b : Int) (s : ByteArray) (w : World) (hs : s.size ≤ maxLen) (hn : n ≤ 16) (hn1 : 1 ≤ n) (h : secB s.data.toList n = true) :
    Calls Tryz.prog 114 #[.agg #[.int .i64 n, .int .i64 t, .int .i64 q, .int .i64 b], .string s] w fun e w' => ∃ v, e = .returned (.tuple #[v, .bool true]) ∧ OwnI w' w.heap.size v (secI s.data.toList n) ∧ Up w w' := by
  obtain ⟨h1, h2, h3⟩ := (secB_iff _ _).1 h
  exact Secret_yes n t q b s w hs hn hn1 (by simpa using h1) h2 h3

end Go.Proofs.YtcjhgbljhpflfabGreat

namespace Go.Proofs.YtcjhgbljhpflfabGreat
open Go.RowKit
set_option linter.unusedVariables false
set_option maxRecDepth 100000

/-- the place that comes to i when x^3 is put in the place of x -/
def kOf (n i : Nat) : Nat := if n = 16 then 11 * i % n else 3 * i % n

theorem kOf_facts (n : Nat) (hn : n = 4 ∨ n = 8 ∨ n = 16) : ∀ i, i < n → kOf n i < n ∧ (3 * kOf n i % (2 * n) = i ∨ 3 * kOf n i % (2 * n) = i + n) ∧ ∀ k, k < n → k ≠ kOf n i → 3 * k % (2 * n) ≠ i ∧ 3 * k % (2 * n) ≠ i + n := by
  rcases hn with rfl | rfl | rfl <;> decide

/-- coefficient i with x^3 in the place of x -/
def cubC (n : Nat) (xs : List Int) (q : Int) (i : Nat) : Int := if 3 * kOf n i % (2 * n) = i then xs.getD (kOf n i) 0 % q else -(xs.getD (kOf n i) 0) % q
def cubI (n : Nat) (xs : List Int) (q : Int) : List Int := (List.range n).map (cubC n xs q)

set_option maxHeartbeats 4000000 in
theorem Cubed_calls (n : Nat) (xs : List Int) (ga ca : Nat) (q : Int) (w : World) (hn : n = 4 ∨ n = 8 ∨ n = 16) (hla : xs.length = n) (hq : 0 < q) (hq2 : q ≤ 1073741823) (ha : Bnd xs 4294967296) (ia : IsI w ga xs) :
    Calls Tryz.prog 108 #[.slice (some ⟨ga, 0, none⟩) n ca, .int .i64 q] w fun e w' => ∃ v, e = .returned v ∧ OwnI w' w.heap.size v (cubI n xs q) ∧ Up w w' := by
  have HF : Hid _ := kOf_facts n hn
  have hn2 : n ≤ 16 := by omega
  have hn3 : 4 ≤ n := by omega
  have HA : Hid _ := ha
  have HLA : Hid _ := hla
  clear ha hla hn
  go_enter Tryz.func108, Tryz.ntmps108
  go_wp2_with fail
  go_loopw [6, 7] (fun v j wr => ∃ i : Nat, i ≤ n ∧ j = .int .i64 (i : Int) ∧ OwnI wr w.heap.size v ((List.range i).map (cubC n xs q)) ∧ Up w wr) (fun _ j _ => n - (intOf j).toNat)
  case atStart => exact ⟨0, Nat.zero_le _, rfl, World.ownsRow_nil _ _ _ _, Up.refl _⟩
  case round =>
    obtain ⟨i, hi, rfl, hown, hu⟩ := hrel
    by_cases hin : i < n
    · obtain ⟨hk1, hk2, hk3⟩ := HF.out i hin
      have HK2 : Hid _ := hk2
      have HK3 : Hid _ := hk3
      have HR : Hid ((List.range (i + 1)).map (cubC n xs q) = (List.range i).map (cubC n xs q) ++ [cubC n xs q i]) := map_range_succ _ _
      have HCv : Hid (cubC n xs q i = if 3 * kOf n i % (2 * n) = i then xs.getD (kOf n i) 0 % q else -(xs.getD (kOf n i) 0) % q) := rfl
      generalize cubC n xs q i = y at HR HCv
      generalize kOf n i = K at hk1 HK2 HK3 HCv
      clear hk2 hk3
      go_wp2_with fail
      go_loopw [6, 8] (fun v z wx => ∃ k : Nat, k ≤ n ∧ z = .int .i64 (k : Int) ∧ OwnI wx w.heap.size v ((List.range i).map (cubC n xs q) ++ (if K < k then [y] else [])) ∧ Up w wx) (fun _ z _ => n - (intOf z).toNat)
      case atStart => exact ⟨0, Nat.zero_le _, rfl, by rw [if_neg (Nat.not_lt_zero _), List.append_nil]; exact hown, hu⟩
      case round =>
        obtain ⟨k, hk, rfl, hownx, hux⟩ := hrel
        clear hown hu
        by_cases hkn : k < n
        · have e0 : (3 * (k : Int)) % (2 * (n : Int)) = ((3 * k % (2 * n) : Nat) : Int) := by rw [Int.natCast_emod, Int.natCast_mul, Int.natCast_mul]; rfl
          by_cases hkK : k = K
          · subst hkK
            rw [if_neg (Nat.lt_irrefl k), List.append_nil] at hownx
            have hca := (ia.up hux).2 k (by rw [HLA.out]; omega)
            have hba := HA.out k
            by_cases hpos : 3 * k % (2 * n) = i
            · have HY := HCv.out
              rw [if_pos hpos] at HY
              have HY : Hid _ := HY
              have e1 : (3 * (k : Int) % (2 * (n : Int)) == (i : Int)) = true := by rw [e0, hpos]; exact beq_self_eq_true _
              have E0 : Hid _ := e0
              clear e0 hpos HCv
              generalize xs.getD k 0 = x at hca hba HY
              go_wp2_with fail
              refine (Mod_calls _ _ _ hq (by omega)).mono ?_
              rintro e w' ⟨rfl, rfl⟩
              go_wp2_with (at_builtin; refine append_int _ _ rfl _ _ rfl _ _ _ rfl hownx rfl (by simp; omega) hux.size ?_)
              intro v4 w4 hown4 hg4 hb4 _
              clear hownx hg4 hca
              go_wp2_with fail
              go_roundw
              case rel => exact ⟨k + 1, by omega, by go_num, by rw [if_pos (Nat.lt_succ_self k), HY.out]; exact hown4, Below.trans hux hb4⟩
              case measure => simp [intOf]; omega
            · have HY := HCv.out
              rw [if_neg hpos] at HY
              have HY : Hid _ := HY
              have hneg : 3 * k % (2 * n) = i + n := by
                rcases HK2.out with h | h
                · exact absurd h hpos
                · exact h
              have e1 : (3 * (k : Int) % (2 * (n : Int)) == (i : Int)) = false := by rw [e0]; exact beq_eq_false_iff_ne.2 (by omega)
              have e2 : (3 * (k : Int) % (2 * (n : Int)) == (i : Int) + (n : Int)) = true := by rw [e0, hneg]; simp
              have E0 : Hid _ := e0
              clear e0 hpos hneg HCv
              generalize xs.getD k 0 = x at hca hba HY
              go_wp2_with fail
              refine (Mod_calls _ _ _ hq (by omega)).mono ?_
              rintro e w' ⟨rfl, rfl⟩
              go_wp2_with (at_builtin; refine append_int _ _ rfl _ _ rfl _ _ _ rfl hownx rfl (by simp; omega) hux.size ?_)
              intro v4 w4 hown4 hg4 hb4 _
              clear hownx hg4 hca
              go_wp2_with fail
              go_roundw
              case rel => exact ⟨k + 1, by omega, by go_num, by rw [if_pos (Nat.lt_succ_self k), HY.out]; exact hown4, Below.trans hux hb4⟩
              case measure => simp [intOf]; omega
          · obtain ⟨hd1, hd2⟩ := HK3.out k hkn hkK
            have e1 : (3 * (k : Int) % (2 * (n : Int)) == (i : Int)) = false := by rw [e0]; exact beq_eq_false_iff_ne.2 (by omega)
            have e2 : (3 * (k : Int) % (2 * (n : Int)) == (i : Int) + (n : Int)) = false := by rw [e0]; exact beq_eq_false_iff_ne.2 (by omega)
            have E0 : Hid _ := e0
            have HI : Hid ((if K < k + 1 then [y] else []) = (if K < k then [y] else [])) := by
              show _ = _
              by_cases h : K < k
              · rw [if_pos h, if_pos (by omega)]
              · rw [if_neg h, if_neg (by omega)]
            clear e0 hd1 hd2
            go_wp2_with fail
            go_roundw
            case rel => exact ⟨k + 1, by omega, by go_num, by rw [HI.out]; exact hownx, hux⟩
            case measure => simp [intOf]; omega
        · obtain rfl : k = n := by omega
          rw [if_pos hk1, ← HR.out] at hownx
          go_wp2_with fail
          go_roundw
          case rel => exact ⟨i + 1, by omega, by go_num, hownx, hux⟩
          case measure => simp [intOf]; omega
    · obtain rfl : i = n := by omega
      go_wp2_with fail
      go_ret
      exact ⟨_, rfl, hown, hu⟩

end Go.Proofs.YtcjhgbljhpflfabGreat

namespace Go.Proofs.YtcjhgbljhpflfabGreat
open Go.RowKit
set_option linter.unusedVariables false
set_option maxRecDepth 100000

theorem keepU {a k : Nat} {u : Value} {W W' : World} (hu : Up W W') (hS : W.cell? ⟨a, k, none⟩ = some u) : W'.cell? ⟨a, k, none⟩ = some u :=
  (hu.cell (p := ⟨a, k, none⟩) (World.block_lt_of_cell? W ⟨a, k, none⟩ hS)).trans hS

theorem getD_out (xs : List Int) (i : Nat) (h : xs.length ≤ i) : xs.getD i 0 = 0 := by
  rw [List.getD_eq_getElem?_getD, List.getElem?_eq_none h]; rfl

theorem Bnd_map {f : Nat → Int} {n : Nat} {m : Int} (hm : 0 ≤ m) (h : ∀ i, i < n → -m ≤ f i ∧ f i ≤ m) : Bnd ((List.range n).map f) m := by
  intro i
  by_cases hi : i < n
  · rw [getD_range hi]; exact h i hi
  · rw [getD_out _ _ (by simp; omega)]; omega

theorem Bnd_mod {f : Nat → Int} {n : Nat} {q m : Int} (hq : 0 < q) (hm : q ≤ m) (e : ∀ i, ∃ x, f i = x % q) : Bnd ((List.range n).map f) m := by
  refine Bnd_map (by omega) fun i _ => ?_
  obtain ⟨x, hx⟩ := e i
  have := mod_bounds hq x
  rw [hx]
  omega

theorem plusI_length (n : Nat) (xs ys : List Int) (q : Int) : (plusI n xs ys q).length = n := by simp [plusI]
theorem scaledI_length (n : Nat) (xs : List Int) (k q : Int) : (scaledI n xs k q).length = n := by simp [scaledI]
theorem timesI_length (n : Nat) (xs ys : List Int) (q : Int) : (timesI n xs ys q).length = n := by simp [timesI]
theorem pairA_length (l : List UInt8) (q : Int) (n at0 : Nat) : (pairA l q n at0).length = n := by simp [pairA]
theorem pairE_length (l : List UInt8) (n at0 : Nat) : (pairE l n at0).length = n := by simp [pairE]
theorem secI_length (l : List UInt8) (n : Nat) : (secI l n).length = n := by simp [secI]
theorem cubI_length (n : Nat) (xs : List Int) (q : Int) : (cubI n xs q).length = n := by simp [cubI]

theorem pairE_bnd (l : List UInt8) (n at0 : Nat) (m : Int) (hm : 2 ≤ m) : Bnd (pairE l n at0) m := by
  refine Bnd_map (by omega) fun i _ => ?_
  have := byteL_lt l (at0 + 4 * n + i)
  unfold prE
  omega

/-- m, hidden by a drawn pair, times k: c -/
def hidI (n : Nat) (s m : List Int) (k q : Int) (l : List UInt8) (at0 : Nat) : List Int :=
  plusI n (plusI n (pairE l n at0) (scaledI n m k q) q) (scaledI n (timesI n (pairA l q n at0) s q) (-1) q) q

theorem hidI_length (n : Nat) (s m : List Int) (k q : Int) (l : List UInt8) (at0 : Nat) : (hidI n s m k q l at0).length = n := plusI_length _ _ _ _

set_option maxHeartbeats 4000000 in
theorem hidden_calls (n at0 : Nat) (t q b k : Int) (ss ms : List Int) (gs gm cs cm : Nat) (d : ByteArray) (w : World) (hd : d.size ≤ maxLen) (hn : n ≤ 16) (hn1 : 1 ≤ n) (hat : at0 ≤ 1048576) (hq : 0 < q) (hq2 : q ≤ 1073741823) (hk1 : -1073741824 ≤ k) (hk2 : k ≤ 1073741824)
    (hls : ss.length = n) (hlm : ms.length = n) (is1 : IsI w gs ss) (im : IsI w gm ms) :
    Calls Tryz.prog 165 #[.agg #[.int .i64 n, .int .i64 t, .int .i64 q, .int .i64 b], .slice (some ⟨gs, 0, none⟩) n cs, .slice (some ⟨gm, 0, none⟩) n cm, .int .i64 k, .string d, .int .i64 at0] w
      fun e w' => ∃ vc va, e = .returned (.tuple #[vc, va]) ∧ OwnI w' w.heap.size vc (hidI n ss ms k q d.data.toList at0) ∧ OwnI w' w.heap.size va (pairA d.data.toList q n at0) ∧ Up w w' := by
  have HLS : Hid _ := hls
  have HLM : Hid _ := hlm
  clear hls hlm
  go_enter Tryz.func165, Tryz.ntmps165
  go_wp2_with fail
  refine (Pair_calls n at0 t q b d _ hd hn hat hq hq2).mono ?_
  rintro e w1 ⟨va, ve, rfl, hoa, hoe, hu1⟩
  obtain ⟨ga, ca, rfl, hga, ia⟩ := hoa.is (ne_nil_of_length (pairA_length _ _ _ _) (by omega))
  obtain ⟨ge, ce, rfl, hge, ie⟩ := hoe.is (ne_nil_of_length (pairE_length _ _ _) (by omega))
  rw [pairA_length, pairE_length] at *
  clear hoe
  obtain ⟨hc, hf⟩ := bcell hu1
  have hct : w1.cell? ⟨w.heap.size, 2, none⟩ = some (.int .i64 q) := by rw [hc _ _ (by simp)]; simp
  have im1 := (im.up ((Up.refl _).alloc _)).up hu1
  have is2 := (is1.up ((Up.refl _).alloc _)).up hu1
  clear hc hf
  go_wp2_with fail
  go_region_held3 (fun w' => w'.cell? ⟨w.heap.size, 2, none⟩ = some (.int .i64 q))
    (first | go_keep | exact keepU hu3 (by assumption) | exact keepU hu2 (by assumption))
    ((first | (go_at_call 111; refine (Scaled_calls n ms gm cm k q _ hn HLM.out hq hq2 hk1 hk2 (by exact im1.up (Up.drew (Up.refl _)))).mono ?_; rintro e w2 ⟨v2, rfl, ho2, hu2⟩; obtain ⟨g2, c2, rfl, hg2, i2⟩ := ho2.is (ne_nil_of_length (scaledI_length _ _ _ _) (by omega)); rw [scaledI_length]) | (go_at_call 109; refine (Plus_calls n _ _ ge g2 ce c2 q _ hn (pairE_length _ _ _) (scaledI_length _ _ _ _) hq hq2 (pairE_bnd _ _ _ _ (by omega)) (Bnd_mod hq (by omega) (fun i => ⟨_, rfl⟩)) (by exact (ie.up (Up.drew (Up.refl _))).up hu2) i2).mono ?_; rintro e w3 ⟨v3, rfl, ho3, hu3⟩; obtain ⟨g3, c3, rfl, hg3, i3⟩ := ho3.is (ne_nil_of_length (plusI_length _ _ _ _) (by omega)); rw [plusI_length])))
  have hct3 : w3.cell? ⟨w.heap.size, 2, none⟩ = some (.int .i64 q) := keepU hu3 (keepU hu2 (by exact hct))
  have hu13 : Up w1 w3 := Up.trans (Up.trans (Up.drew (Up.refl _)) hu2) hu3
  have ia3 := ia.up hu13
  have is3 := is2.up hu13
  clear hct hu2 hu3 ho2 ho3 i2
  go_wp2_with fail
  go_region_held3 (fun w' => w'.cell? ⟨w.heap.size, 2, none⟩ = some (.int .i64 q))
    (first | go_keep | exact keepU hu6 (by assumption) | exact keepU hu5 (by assumption) | exact keepU hu4 (by assumption))
    ((first | (go_at_call 104; refine (Times_calls n _ ss ga gs ca cs q _ hn (pairA_length _ _ _ _) HLS.out hq hq2 (Bnd_mod hq (by omega) (fun i => ⟨_, rfl⟩)) (by exact ia3.up (Up.drew (Up.refl _))) (by exact is3.up (Up.drew (Up.refl _)))).mono ?_; rintro e w4 ⟨v4, rfl, ho4, hu4⟩; obtain ⟨g4, c4, rfl, hg4, i4⟩ := ho4.is (ne_nil_of_length (timesI_length _ _ _ _) (by omega)); rw [timesI_length]) | (go_at_call 111; refine (Scaled_calls n _ g4 c4 (-1) q _ hn (timesI_length _ _ _ _) hq hq2 (by omega) (by omega) i4).mono ?_; rintro e w5 ⟨v5, rfl, ho5, hu5⟩; obtain ⟨g5, c5, rfl, hg5, i5⟩ := ho5.is (ne_nil_of_length (scaledI_length _ _ _ _) (by omega)); rw [scaledI_length]) | (go_at_call 109; refine (Plus_calls n _ _ g3 g5 c3 c5 q _ hn (plusI_length _ _ _ _) (scaledI_length _ _ _ _) hq hq2 (Bnd_mod hq (by omega) (fun i => ⟨_, rfl⟩)) (Bnd_mod hq (by omega) (fun i => ⟨_, rfl⟩)) (by exact ((i3.up (Up.drew (Up.refl _))).up hu4).up hu5) i5).mono ?_; rintro e w6 ⟨v6, rfl, ho6, hu6⟩)))
  have hu36 : Up w3 w6 := Up.trans (Up.trans (Up.trans (Up.drew (Up.refl _)) hu4) hu5) hu6
  have hsz5 : w.heap.size ≤ w5.heap.size := by
    have h1 := hu1.size
    have h2 := hu13.size
    have h3 := (Up.trans (Up.trans (Up.drew (Up.refl w3)) hu4) hu5).size
    simp at h1
    omega
  have hoa6 := hoa.up (hu13.trans hu36)
  clear hct3 hu4 hu5 hu6 ho4 ho5 i3 i4 i5 ia3 is3 hoa
  go_wp2_with fail
  go_ret2
  refine ⟨_, _, rfl, ho6.base hsz5, hoa6.base (by simp), ((((Up.refl _).alloc _).trans hu1).trans hu13).trans hu36⟩

end Go.Proofs.YtcjhgbljhpflfabGreat

namespace Go.Proofs.YtcjhgbljhpflfabGreat
open Go.RowKit
set_option linter.unusedVariables false
set_option maxRecDepth 100000

/-- the key of these draws -/
def keyL (l : List UInt8) (n : Nat) : List UInt8 := 75 :: (List.range n).map fun i => UInt8.ofNat (byteL l i % 3)

theorem keyL_succ (l : List UInt8) (n : Nat) : keyL l (n + 1) = keyL l n ++ [UInt8.ofNat (byteL l n % 3)] := by simp [keyL, List.range_succ]
theorem keyL_length (l : List UInt8) (n : Nat) : (keyL l n).length = n + 1 := by simp [keyL]

theorem add_str (xs ys : List UInt8) (hx : xs.length ≤ 1000000) (hy : ys.length ≤ 1000000) (W : World) : (Op.stringOp .add ⟨xs.toArray⟩ ⟨ys.toArray⟩).run Tryz.prog W = .ok (.string ⟨(xs ++ ys).toArray⟩) W :=
  run_string_add_lists (P := Tryz.prog) W xs ys (by omega) (by omega)

/-- the least number of digits -/
structure DigOf (q b : Int) (L : Nat) : Prop where
  top : q ≤ 2 ^ (b.toNat * L)
  low : ∀ j, j < L → (2 : Int) ^ (b.toNat * j) < q

theorem DigOf.le {q b : Int} {L : Nat} (h : DigOf q b L) (hb : 1 ≤ b) (hq : q ≤ 1073741823) : L ≤ 30 := by
  rcases Nat.lt_or_ge 30 L with c | c
  · exfalso
    have h3 := h.low 30 c
    have h4 : (2 : Int) ^ (1 * 30) ≤ 2 ^ (b.toNat * 30) := by
      have : (2 : Nat) ^ (1 * 30) ≤ 2 ^ (b.toNat * 30) := Nat.pow_le_pow_right (by omega) (Nat.mul_le_mul_right _ (by omega))
      exact_mod_cast this
    have h5 : (2 : Int) ^ (1 * 30) = 1073741824 := by decide
    omega
  · exact c

/-- the pairs of a turning key, the first L -/
def tkL (n : Nat) (ss : List Int) (q b : Int) (l : List UInt8) : Nat → List UInt8
  | 0 => [82]
  | i + 1 => tkL n ss q b l i ++ textsL 4 (hidI n ss (cubI n ss q) (2 ^ (b.toNat * i)) q l (5 * n * i)) ++ textsL 4 (pairA l q n (5 * n * i))

theorem tkL_length (n : Nat) (ss : List Int) (q b : Int) (l : List UInt8) (i : Nat) : (tkL n ss q b l i).length = 1 + 8 * n * i := by
  induction i with
  | zero => rfl
  | succ i ih =>
    simp only [tkL, List.length_append, ih, textsL_length, hidI_length, pairA_length]
    rw [Nat.mul_succ]
    omega

theorem secI_bnd (l : List UInt8) (n : Nat) : Bnd (secI l n) 4294967296 := by
  refine Bnd_map (by omega) fun i _ => ?_
  have := byteL_lt l (i + 1)
  omega

theorem plusI_bounds (n : Nat) (xs ys : List Int) (q : Int) (hq : 0 < q) (i : Nat) (hi : i < (plusI n xs ys q).length) : 0 ≤ (plusI n xs ys q).getD i 0 ∧ (plusI n xs ys q).getD i 0 < q := by
  rw [plusI_length] at hi
  unfold plusI
  rw [getD_range hi]
  exact mod_bounds hq _

theorem hidI_bounds (n : Nat) (ss ms : List Int) (k q : Int) (l : List UInt8) (at0 : Nat) (hq : 0 < q) (i : Nat) (hi : i < (hidI n ss ms k q l at0).length) : 0 ≤ (hidI n ss ms k q l at0).getD i 0 ∧ (hidI n ss ms k q l at0).getD i 0 < q := plusI_bounds n _ _ q hq i hi

theorem pairA_bounds (l : List UInt8) (q : Int) (n at0 : Nat) (hq : 0 < q) (i : Nat) (hi : i < (pairA l q n at0).length) : 0 ≤ (pairA l q n at0).getD i 0 ∧ (pairA l q n at0).getD i 0 < q := by
  rw [pairA_length] at hi
  unfold pairA
  rw [getD_range hi]
  exact mod_bounds hq _

theorem keep4 {a : Nat} {u0 u1 u2 u3 : Value} {W W' : World} (hu : Up W W') (hS : W.cell? ⟨a, 0, none⟩ = some u0 ∧ W.cell? ⟨a, 1, none⟩ = some u1 ∧ W.cell? ⟨a, 2, none⟩ = some u2 ∧ W.cell? ⟨a, 3, none⟩ = some u3) :
    W'.cell? ⟨a, 0, none⟩ = some u0 ∧ W'.cell? ⟨a, 1, none⟩ = some u1 ∧ W'.cell? ⟨a, 2, none⟩ = some u2 ∧ W'.cell? ⟨a, 3, none⟩ = some u3 :=
  ⟨keepU hu hS.1, keepU hu hS.2.1, keepU hu hS.2.2.1, keepU hu hS.2.2.2⟩

theorem pow_b (b : Int) (hb : 1 ≤ b) (hb2 : b ≤ 8) : (2 : Int) ^ b.toNat % 1048576 = 2 ^ b.toNat ∧ (2 : Int) ^ b.toNat ≤ 256 ∧ 2 ≤ (2 : Int) ^ b.toNat := by
  obtain ⟨m, rfl⟩ := Int.eq_ofNat_of_zero_le (a := b) (by omega)
  rw [Int.toNat_natCast]
  rcases (show m = 1 ∨ m = 2 ∨ m = 3 ∨ m = 4 ∨ m = 5 ∨ m = 6 ∨ m = 7 ∨ m = 8 from by omega) with rfl | rfl | rfl | rfl | rfl | rfl | rfl | rfl <;> decide

end Go.Proofs.YtcjhgbljhpflfabGreat
