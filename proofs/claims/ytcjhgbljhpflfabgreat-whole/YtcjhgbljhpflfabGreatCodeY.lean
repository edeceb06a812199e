/-
  Walks: the program's reading of a turning key; its digits, products and sums.
  Walks: the program's Turn.
-/
import Derived.Test.YtcjhgbljhpflfabGreatCodeV
import Derived.Test.YtcjhgbljhpflfabGreatWalksY
import Derived.Test.YtcjhgbljhpflfabGreatCodeN
namespace Go.Proofs.YtcjhgbljhpflfabGreat
open Go.RowKit
set_option linter.unusedVariables false
set_option maxRecDepth 100000

/-- an append of a pair at a step of a region that draws -/
theorem step_append_pair {ops : Array Oper} {o : Oper} {a : Act} {K : Act → World → Prop} {Q : Exit → Act → World → Prop} {E : Prop} (W : World) (y0 y1 : Value) (hy0 : y0.oneCell' = true) (hy1 : y1.oneCell' = true) (g : Nat) (hgd : o.guard = none) (s x : Operand)
    (ho : o.op = .call { callee := .builtin .append, args := #[s, x], argTypes := #[89, 89] })
    (base : Nat) (v : Value) (k : Nat) (xs : List Value) (hs : a.eval s = v) (hown : W.ownsRow base 146 2 v k xs) (hx : a.eval x = .slice (some ⟨g, 0, none⟩) 1 1) (hc : W.cell? ⟨g, 0, none⟩ = some y0 ∧ W.cell? ⟨g, 1, none⟩ = some y1)
    (hlen : k ≤ 1048576) (hbase : base ≤ W.heap.size)
    (h : ∀ v' w', w'.ownsRow base 146 2 v' (k + 1) (xs ++ [y0, y1]) → W.grownBy w' v.ownBlock → Below base W w' → K (a.put o.dst v') w') :
    if Region.wanted o (yielded ops a.tmps) = true then Oper.wp Tryz.prog o a W K Q else E := by
  have hw : Region.wanted o (yielded ops a.tmps) = true := by simp [Region.wanted, hgd]
  rw [if_pos hw]
  obtain ⟨i0, hi, hz0, hz1, hz2⟩ := info_parts info_pair
  refine wp_append_own W s x 89 ho base 146 i0 (.agg #[.slice none 0 0, .slice none 0 0]) 2 48 Tryz.underlying89 hi hz0 hz1 hz2 rfl (by decide) v k xs hs hown
    ⟨g, 0, none⟩ 1 1 [y0, y1] hx rfl ?_ ?_ ?_ ?_ hbase ?_
  · intro j u hj
    match j, hj with
    | 0, hj => simp at hj; subst hj; simpa [Addr.add] using hc.1
    | 1, hj => simp at hj; subst hj; simpa [Addr.add] using hc.2
  · intro u hu
    simp at hu
    rcases hu with rfl | rfl
    · exact hy0
    · exact hy1
  · unfold maxLen; omega
  · omega
  · intro v' w' h1 h2 h3
    exact h v' w' h1 h2 ((Below.refl _ _).grown h2 hbase (fun k hk => (World.ownsRow.lt hown k hk).1))

theorem tn_row (l : List UInt8) (n k : Nat) : rowL l.tail 4 n k = tkP l n k := by
  refine List.map_congr_left fun i _ => ?_
  rw [show l.tail = l.drop 1 by simp, numL_drop, show 1 + (k * (4 * n) + i * 4) = 1 + 4 * (n * k) + 4 * i by rw [Nat.mul_left_comm, Nat.mul_comm k n]; omega]

theorem tnB_chunks (l : List UInt8) (n L : Nat) (q : Int) : tnB l (2 * n * L) q = true ↔ 1 ≤ l.length ∧ byteL l 0 = 82 ∧ okL l.tail (2 * L * n) 4 q = true := by
  rw [tnB_iff, show 2 * n * L = 2 * L * n by rw [Nat.mul_assoc, Nat.mul_assoc, Nat.mul_comm n L]]
  constructor
  · rintro ⟨h1, h2, h3⟩
    exact ⟨by omega, h2, h3⟩
  · rintro ⟨h1, h2, h3⟩
    have := ((okL_iff _ _ _ _).1 h3).1
    rw [List.length_tail] at this
    exact ⟨by omega, h2, h3⟩

set_option maxHeartbeats 4000000 in
theorem ReadTurnKey_ok (n L : Nat) (t q b : Int) (s : ByteArray) (w : World) (hs : s.size ≤ maxLen) (hn : n ≤ 16) (hn1 : 1 ≤ n) (hq : 2 ≤ q) (hq2 : q ≤ 1073741823) (hb : 1 ≤ b) (hb2 : b ≤ 8) (hL : DigOf q b L) (h : tnB s.data.toList (2 * n * L) q = true) :
    Calls Tryz.prog 37 #[.agg #[.int .i64 n, .int .i64 t, .int .i64 q, .int .i64 b], .string s] w fun e w' => ∃ H cap gs caps, e = .returned (.tuple #[.slice (some ⟨H, 0, none⟩) L cap, .bool true]) ∧ RowsAt w' H (2 * L) n gs caps (tkP s.data.toList n) ∧ Up w w' := by
  have hL30 := hL.le hb hq2
  have hL1 := hL.pos hq
  obtain ⟨h1, h2, h3⟩ := (tnB_chunks _ _ _ _).1 h
  have h0 : 0 < s.size := Nat.lt_of_lt_of_le Nat.one_pos (by simpa using h1)
  rw [byteL_in s 0 h0] at h2
  have hne2 : (((s[0]'h0).toNat : Int) != 82) = false := by rw [h2]; rfl
  have hs1 : (1 : Int) ≤ (s.size : Int) := by omega
  have hs2 : (s.size : Int) ≤ 9223372036854775807 := by unfold maxLen at hs; omega
  have HDg : Hid (∀ W, Calls Tryz.prog 90 #[.agg #[.int .i64 n, .int .i64 t, .int .i64 q, .int .i64 b]] W fun e w' => e = .returned (.int .i64 (L : Int)) ∧ Up W w') := fun W => pDigits_calls n t q b L W hq hq2 hb hb2 hL
  have HLi : Hid (∀ W, Calls Tryz.prog 88 #[.string (s.extract 1 s.size), .int .i64 4, .int .i64 n, .int .i64 (2 * (L : Int)), .int .i64 q] W fun e w' => ∃ H cap gs caps, e = .returned (.tuple #[.slice (some ⟨H, 0, none⟩) (2 * L) cap, .bool true]) ∧ RowsAt w' H (2 * L) n gs caps (tkP s.data.toList n) ∧ Up W w') := fun W => by
    have := Lists_ok (s.extract 1 s.size) n (2 * L) 4 q W hn1 (by omega) (by omega) (by omega) (by omega) (by omega) (by rw [ext_tail]; exact h3)
    rw [ext_tail, show ((2 * L : Nat) : Int) = 2 * (L : Int) by omega] at this
    refine this.mono ?_
    rintro e w' ⟨H, cap, gs, caps, rfl, hR, _, hu⟩
    exact ⟨H, cap, gs, caps, rfl, hR.congr fun k _ => tn_row _ _ _, hu⟩
  have e0 : IntKind.i64.wrap (2 * (L : Int)) = 2 * (L : Int) := IntWalk.i64_in _ (by omega)
  generalize tkP s.data.toList n = TP at HLi
  clear h h1 h2 h3 hL
  obtain ⟨W, hW⟩ : ∃ W, W = w.alloc (.cells #[.int .i64 n, .int .i64 t, .int .i64 q, .int .i64 b] 28) := ⟨_, rfl⟩
  have huW : Up w W := by rw [hW]; exact (Up.refl _).alloc _
  have hsW : W.heap.size = w.heap.size + 1 := by rw [hW]; simp
  have hS0 : W.cell? ⟨w.heap.size, 0, none⟩ = some (.int .i64 (n : Int)) := by rw [hW]; simp [go_sem]
  have hS1 : W.cell? ⟨w.heap.size, 1, none⟩ = some (.int .i64 t) := by rw [hW]; simp [go_sem]
  have hS2 : W.cell? ⟨w.heap.size, 2, none⟩ = some (.int .i64 q) := by rw [hW]; simp [go_sem]
  have hS3 : W.cell? ⟨w.heap.size, 3, none⟩ = some (.int .i64 b) := by rw [hW]; simp [go_sem]
  go_enter Tryz.func37, Tryz.ntmps37
  go_wp2_with fail
  rw [← hW]
  clear hW
  go_region_held3 (fun w' => w'.cell? ⟨w.heap.size, 0, none⟩ = some (.int .i64 (n : Int)) ∧ w'.cell? ⟨w.heap.size, 1, none⟩ = some (.int .i64 t) ∧ w'.cell? ⟨w.heap.size, 2, none⟩ = some (.int .i64 q) ∧ w'.cell? ⟨w.heap.size, 3, none⟩ = some (.int .i64 b))
    (first | go_keep | exact keepC4 hu2 (by assumption) | exact keepC4 hu3 (by assumption))
    ((first | (go_at_call 90; refine Calls.mono (HDg.out _) ?_; rintro r w2 ⟨rfl, hu2⟩) | (go_at_call 88; refine Calls.mono (HLi.out _) ?_; rintro r w3 ⟨H, cap, gs, caps, rfl, hR, hu3⟩)))
  have hu03 : Up W w3 := Up.trans (Up.trans (Up.drew (Up.refl _)) hu2) hu3
  clear hu2 hu3 hS0 hS1 hS2 hS3
  go_wp2_with fail
  generalize hM : 2 * L = M at hR
  have HM : Hid _ := hM
  have hM60 : M ≤ 60 := by omega
  have hM2 : 2 ≤ M := by omega
  clear hM
  go_loopw [8, 9] (fun v j wr => ∃ (k i : Nat), Hid (i = 2 * k) ∧ k ≤ L ∧ i ≤ M ∧ j = .int .i64 (i : Int) ∧ wr.ownsRow w3.heap.size 146 2 v k (hdL n gs caps i) ∧ Up w3 wr) (fun _ j _ => M - (intOf j).toNat)
  case atStart => exact ⟨0, 0, rfl, Nat.zero_le _, Nat.zero_le _, rfl, World.ownsRow_nil _ _ _ _, Up.refl _⟩
  case round =>
    obtain ⟨k, i, HI, hk, hiM, rfl, hown, hu⟩ := hrel
    by_cases hlt : k < L
    · have hi1 : i + 1 < M := by have := HI.out; have := HM.out; omega
      have hc0 := (hR.up hu).head i (by omega)
      have hc1 := (hR.up hu).head (i + 1) (by omega)
      have hsz : w3.heap.size ≤ wr.heap.size := hu.size
      have e1 : IntKind.i64.wrap ((i : Int) + 1) = (i : Int) + 1 := IntWalk.i64_in _ (by omega)
      have hI0 : (0 : Int) ≤ (i : Int) := by omega
      have hI1 : (i : Int) < (M : Int) := by omega
      have hI2 : (0 : Int) ≤ (i : Int) + 1 := by omega
      have hI3 : (i : Int) + 1 < (M : Int) := by omega
      have eI : ((i : Int) + 1).toNat = i + 1 := by omega
      have HS : Hid (hdL n gs caps (i + 2) = hdL n gs caps i ++ [.slice (some ⟨gs i, 0, none⟩) n (caps i), .slice (some ⟨gs (i + 1), 0, none⟩) n (caps (i + 1))]) := by
        rw [show i + 2 = i + 1 + 1 from rfl, hdL_succ, hdL_succ, List.append_assoc]
        exact rfl
      generalize hdL n gs caps i = hds at hown HS
      generalize gs i = x0 at hc0 HS
      generalize gs (i + 1) = x1 at hc1 HS
      generalize caps i = y0 at hc0 HS
      generalize caps (i + 1) = y1 at hc1 HS
      have hcn : (wr.alloc (.cells #[.slice (some ⟨x0, 0, none⟩) n y0, .slice (some ⟨x1, 0, none⟩) n y1] 146)).drew.cell? ⟨wr.heap.size, 0, none⟩ = some (.slice (some ⟨x0, 0, none⟩) n y0) ∧ (wr.alloc (.cells #[.slice (some ⟨x0, 0, none⟩) n y0, .slice (some ⟨x1, 0, none⟩) n y1] 146)).drew.cell? ⟨wr.heap.size, 1, none⟩ = some (.slice (some ⟨x1, 0, none⟩) n y1) := by constructor <;> simp
      have hbs := Nat.le_trans hsz (Up.drew (Up.alloc (Up.refl wr) (.cells #[.slice (some ⟨x0, 0, none⟩) n y0, .slice (some ⟨x1, 0, none⟩) n y1] 146))).size
      go_wp2_with fail
      go_region_held3 (fun w' => w'.cell? ⟨H, i, none⟩ = some (.slice (some ⟨x0, 0, none⟩) n y0) ∧ w'.cell? ⟨H, i + 1, none⟩ = some (.slice (some ⟨x1, 0, none⟩) n y1))
        (first | go_keep | exact ⟨keep1 hb4 (by simpa using hR.lt) (And.left (by assumption)), keep1 hb4 (by simpa using hR.lt) (And.right (by assumption))⟩)
        ((first | (refine step_append_pair (wr.alloc (.cells #[.slice (some ⟨x0, 0, none⟩) n y0, .slice (some ⟨x1, 0, none⟩) n y1] 146)).drew (.slice (some ⟨x0, 0, none⟩) n y0) (.slice (some ⟨x1, 0, none⟩) n y1) rfl rfl wr.heap.size rfl (.tmp 40) (.tmp 51) rfl w3.heap.size _ k hds rfl (row_up hown (Up.drew (Up.alloc (Up.refl _) _))) rfl hcn (by omega) hbs ?_; intro v4 w4 hown4 hg4 hb4)))
      have hu4 : Up w3 w4 := Below.trans (Up.drew (Below.alloc hu hu.size _)) (by simpa using hb4)
      clear hcn hbs hc0 hc1 hb4 hg4
      go_wp2_with fail
      go_roundw
      case rel => exact ⟨k + 1, i + 2, by have := HI.out; show _ = _; omega, by omega, by omega, by go_num, by rw [HS.out]; exact hown4, hu4⟩
      case measure => simp [intOf]; omega
    · obtain rfl : k = L := by omega
      have e : i = M := by rw [HI.out, HM.out]
      subst e
      have hRu := hR.up hu
      have hh := hown
      rcases hh.2 with ⟨_, h0⟩ | ⟨H', hcap, cur, rfl, hB, h5, _⟩
      · omega
      · have hF : RowsAt wr H' (2 * k) n gs caps TP := by
          refine ⟨(Array.getElem?_eq_some_iff.1 h5).1, fun j hj => ?_, fun j hj => hRu.row j (by rw [HI.out]; exact hj)⟩
          rw [World.ownsRow.cellAt hown j (by omega)]
          simp [hdL, HI.out, hj]
        go_wp2_with fail
        go_ret2
        first | exact ⟨H', hcap, gs, caps, rfl, hF, huW.trans (hu03.trans hu)⟩ | exact ⟨H', ⟨hcap, rfl⟩, ⟨gs, caps, hF⟩, huW.trans (hu03.trans hu)⟩

/-- what is left of the coefficients behind i digits -/
def restI (n : Nat) (X : List Int) (B : Int) (i : Nat) : List Int := (List.range n).map (restC X B i)

theorem restI_length (n : Nat) (X : List Int) (B : Int) (i : Nat) : (restI n X B i).length = n := by simp [restI]

theorem restI_zero (n : Nat) (X : List Int) (B : Int) (h : X.length = n) : X = restI n X B 0 := by
  apply List.ext_getElem
  · rw [restI_length, h]
  · intro i h1 h2
    simp [restI, restC, List.getD_eq_getElem?_getD, List.getElem?_eq_getElem h1]

theorem rest_dig (n : Nat) (X : List Int) (B : Int) (i : Nat) : ((List.range n).map fun j => (restI n X B i).getD j 0 % B) = digI n X B i := by
  refine List.map_congr_left fun j hj => ?_
  rw [show (restI n X B i).getD j 0 = restC X B i j from getD_range (List.mem_range.1 hj)]
  rfl

theorem restI_next (n : Nat) (X : List Int) (B : Int) (hB : 0 ≤ B) (i : Nat) : ((List.range n).map fun j => (restI n X B i).getD j 0 / B) = restI n X B (i + 1) := by
  refine List.map_congr_left fun j hj => ?_
  rw [show (restI n X B i).getD j 0 = restC X B i j from getD_range (List.mem_range.1 hj)]
  unfold restC
  rw [Int.ediv_ediv_of_nonneg (Int.pow_nonneg hB), Int.pow_succ]

set_option maxHeartbeats 2000000 in
theorem split_calls (n : Nat) (xs : List Int) (ga ca : Nat) (B : Int) (w : World) (hn : n ≤ 16) (hla : xs.length = n) (hB : 2 ≤ B) (hB2 : B ≤ 256) (ha : ∀ i, 0 ≤ xs.getD i 0 ∧ xs.getD i 0 ≤ 4294967296) (ia : IsI w ga xs) :
    Calls Tryz.prog 159 #[.slice (some ⟨ga, 0, none⟩) n ca, .int .i64 B] w fun e w' => ∃ va ve, e = .returned (.tuple #[va, ve]) ∧ OwnI w' w.heap.size va ((List.range n).map fun j => xs.getD j 0 % B) ∧ OwnI w' w.heap.size ve ((List.range n).map fun j => xs.getD j 0 / B) ∧ Up w w' := by
  have HA : Hid _ := ha
  have HLA : Hid _ := hla
  have hd0 : (B == 0) = false := beq_eq_false_iff_ne.2 (by omega)
  have hd1 : ¬ B = 0 := by omega
  clear ha hla
  go_enter Tryz.func159, Tryz.ntmps159
  go_wp2_with fail
  go_loopw [6, 7, 14] (fun va ve j wr => ∃ k : Nat, k ≤ n ∧ j = .int .i64 (k : Int) ∧ OwnI wr w.heap.size va ((List.range k).map fun j => xs.getD j 0 % B) ∧ OwnI wr w.heap.size ve ((List.range k).map fun j => xs.getD j 0 / B) ∧ Apart va ve ∧ Up w wr) (fun _ _ j _ => n - (intOf j).toNat)
  case atStart => exact ⟨0, Nat.zero_le _, rfl, World.ownsRow_nil _ _ _ _, World.ownsRow_nil _ _ _ _, Or.inl rfl, Up.refl _⟩
  case round =>
    obtain ⟨k, hk, rfl, hoa, hoe, hap, hu⟩ := hrel
    by_cases hlt : k < n
    · have hca := (ia.up hu).2 k (by rw [HLA.out]; omega)
      have hba := HA.out k
      have HRA : Hid ((List.range (k + 1)).map (fun j => xs.getD j 0 % B) = (List.range k).map (fun j => xs.getD j 0 % B) ++ [xs.getD k 0 % B]) := map_range_succ _ _
      have HRE : Hid ((List.range (k + 1)).map (fun j => xs.getD j 0 / B) = (List.range k).map (fun j => xs.getD j 0 / B) ++ [xs.getD k 0 / B]) := map_range_succ _ _
      generalize xs.getD k 0 = x at hca hba HRA HRE
      have e1 : x.tmod B = x % B := Int.tmod_eq_emod_of_nonneg hba.1
      have e2 : x.tdiv B = x / B := Int.tdiv_eq_ediv_of_nonneg hba.1
      have h3 : x / B ≤ x := Int.ediv_le_self _ hba.1
      have h4 : 0 ≤ x / B := Int.ediv_nonneg hba.1 (by omega)
      have e3 : IntKind.i64.wrap (x.tdiv B) = x / B := by rw [e2]; exact IntWalk.i64_in _ (by omega)
      have e4 : IntKind.i64.wrap (x / B) = x / B := IntWalk.i64_in _ (by omega)
      have hsz : w.heap.size ≤ wr.heap.size := hu.size
      go_wp2_with (at_builtin; refine append_int _ _ rfl (.tmp 18) (.tmp 22) rfl _ _ _ rfl hoa rfl (by simp; omega) hsz ?_)
      intro v4 w4 hown4 hg4 hb4 hob4
      have hoe1 := hoe.kept hg4 hap.symm.keeps
      have hap1 : Apart v4 u7 := hap.grown hoe hob4
      have hu4 : Up w w4 := Below.trans hu hb4
      have hca4 : w4.cell? ⟨ga, k, none⟩ = some (.int .i64 x) := (hu4.cell (p := ⟨ga, k, none⟩) ia.1).trans ((hu.cell (p := ⟨ga, k, none⟩) ia.1).symm.trans hca)
      clear hoa hoe hap hg4 hb4 hob4 hca
      have hsz4 : w.heap.size ≤ w4.heap.size := hu4.size
      go_wp2_with (at_builtin; refine append_int _ _ rfl (.tmp 24) (.tmp 28) rfl _ _ _ rfl hoe1 rfl (by simp; omega) hsz4 ?_)
      intro v5 w5 hown5 hg5 hb5 hob5
      have hoa2 := hown4.kept hg5 hap1.keeps
      have hap2 : Apart v4 v5 := (hap1.symm.grown hown4 hob5).symm
      have hu5 : Up w w5 := Below.trans hu4 hb5
      clear hown4 hoe1 hap1 hg5 hb5 hob5
      go_wp2_with fail
      go_roundw
      case rel => exact ⟨k + 1, by omega, by go_num, by rw [HRA.out]; exact hoa2, by rw [HRE.out]; exact hown5, hap2, hu5⟩
      case measure => simp [intOf]; omega
    · obtain rfl : k = n := by omega
      go_wp2_with fail
      go_ret2
      exact ⟨_, _, rfl, hoa, hoe, hu⟩

set_option maxHeartbeats 1000000 in
theorem addProduct_calls (n : Nat) (ss xs ys : List Int) (gs ga gb cs ca cb : Nat) (q : Int) (w : World) (hn : n ≤ 16) (hn1 : 1 ≤ n) (hls : ss.length = n) (hla : xs.length = n) (hlb : ys.length = n) (hq : 0 < q) (hq2 : q ≤ 1073741823) (hs : Bnd ss 4294967296) (ha : Bnd xs 1073741824) (hb : Bnd ys 1073741824) (is : IsI w gs ss) (ia : IsI w ga xs) (ib : IsI w gb ys) :
    Calls Tryz.prog 160 #[.slice (some ⟨gs, 0, none⟩) n cs, .slice (some ⟨ga, 0, none⟩) n ca, .slice (some ⟨gb, 0, none⟩) n cb, .int .i64 q] w fun e w' => ∃ g c, e = .returned (.slice (some ⟨g, 0, none⟩) n c) ∧ IsI w' g (plusI n ss (timesI n ys xs q) q) ∧ Up w w' := by
  have HS : Hid _ := hs
  have HA : Hid _ := ha
  have HB : Hid _ := hb
  have HLS : Hid _ := hls
  have HLA : Hid _ := hla
  have HLB : Hid _ := hlb
  have HC : Hid _ := timesI_comm n (by omega) xs ys q
  clear hs ha hb hls hla hlb
  go_enter Tryz.func160, Tryz.ntmps160
  go_wp2_with fail
  refine (ringMul_calls n xs ys ga gb ca cb q _ hn HLA.out HLB.out hq hq2 HA.out HB.out ia ib).mono ?_
  rintro e w1 ⟨g1, rfl, ho1, hu1⟩
  go_wp2_with fail
  refine (ringAdd_calls n ss (timesI n xs ys q) gs g1 cs n q _ hn HLS.out (timesI_length _ _ _ _) hq hq2 HS.out (timesI_bnd _ _ _ _ _ hq (by omega)) (is.up hu1) ho1.isI).mono ?_
  rintro e w2 ⟨v2, rfl, ho2, hu2⟩
  obtain ⟨g2, c2, rfl, _, i2⟩ := ho2.is (ne_nil_of_length (plusI_length _ _ _ _) (by omega))
  rw [plusI_length]
  rw [HC.out] at i2
  go_wp2_with fail
  go_ret
  exact ⟨g2, c2, rfl, i2, hu1.trans hu2⟩

theorem cubI_bnd (n : Nat) (xs : List Int) (q m : Int) (hq : 0 < q) (hm : q ≤ m) : Bnd (cubI n xs q) m := Bnd_mod hq hm fun i => by
  unfold cubC
  split
  · exact ⟨_, rfl⟩
  · exact ⟨_, rfl⟩

theorem cub_range (n : Nat) (xs : List Int) (q : Int) (hq : 0 < q) (j : Nat) : 0 ≤ (cubI n xs q).getD j 0 ∧ (cubI n xs q).getD j 0 < q := by
  rcases Nat.lt_or_ge j n with h | h
  · rw [show (cubI n xs q).getD j 0 = cubC n xs q j from getD_range h]
    unfold cubC
    split
    · exact mod_bounds hq _
    · exact mod_bounds hq _
  · rw [getD_out _ _ (by rw [cubI_length]; exact h)]
    omega

theorem rest_bnd (n : Nat) (xs : List Int) (q B : Int) (hq : 0 < q) (hq2 : q ≤ 1073741823) (hB : 2 ≤ B) (i j : Nat) : 0 ≤ (restI n (cubI n xs q) B i).getD j 0 ∧ (restI n (cubI n xs q) B i).getD j 0 ≤ 4294967296 := by
  rcases Nat.lt_or_ge j n with h | h
  · rw [show (restI n (cubI n xs q) B i).getD j 0 = restC (cubI n xs q) B i j from getD_range h]
    have h1 := cub_range n xs q hq j
    have h2 : (0 : Int) ≤ B ^ i := Int.pow_nonneg (by omega)
    unfold restC
    exact ⟨Int.ediv_nonneg h1.1 h2, Int.le_trans (Int.ediv_le_self _ h1.1) (by omega)⟩
  · rw [getD_out _ _ (by rw [restI_length]; exact h)]
    omega

theorem digI_bnd2 (n : Nat) (X : List Int) (B : Int) (i : Nat) (hB : 2 ≤ B) (hB2 : B ≤ 256) : Bnd (digI n X B i) 1073741824 := Bnd_mod (q := B) (by omega) (by omega) fun j => ⟨_, rfl⟩

/-- what a turning key adds to the bound -/
def tnN (n L : Nat) (b : Int) : Nat := L * n * ((2 : Int) ^ b.toNat - 1).toNat * 2

theorem tnN_le (n L : Nat) (b : Int) (hn : n ≤ 16) (hL : L ≤ 30) (hb : 1 ≤ b) (hb2 : b ≤ 8) : tnN n L b ≤ 244800 := by
  obtain ⟨_, hB1, hB2⟩ := pow_b b hb hb2
  have h1 : L * n ≤ 480 := Nat.mul_le_mul hL hn
  have h2 : ((2 : Int) ^ b.toNat - 1).toNat ≤ 255 := by omega
  have h3 : L * n * ((2 : Int) ^ b.toNat - 1).toNat ≤ 480 * 255 := Nat.mul_le_mul h1 h2
  unfold tnN
  omega

set_option maxHeartbeats 2000000 in
theorem turnNoise_calls (n L : Nat) (t q b : Int) (w : World) (hn : n ≤ 16) (hq : 2 ≤ q) (hq2 : q ≤ 1073741823) (hb : 1 ≤ b) (hb2 : b ≤ 8) (hL : DigOf q b L) :
    Calls Tryz.prog 158 #[.agg #[.int .i64 n, .int .i64 t, .int .i64 q, .int .i64 b]] w fun e w' => e = .returned (.int .i64 (tnN n L b : Nat)) ∧ Up w w' := by
  have hL30 := hL.le hb hq2
  obtain ⟨_, hB1, hB2⟩ := pow_b b hb hb2
  have HB : Hid _ := Base_calls n t q b
  have HDg : Hid (∀ W, Calls Tryz.prog 90 #[.agg #[.int .i64 n, .int .i64 t, .int .i64 q, .int .i64 b]] W fun e w' => e = .returned (.int .i64 (L : Int)) ∧ Up W w') := fun W => pDigits_calls n t q b L W hq hq2 hb hb2 hL
  have hle := tnN_le n L b hn hL30 hb hb2
  have HE : Hid ((tnN n L b : Int) = (L : Int) * (n : Int) * ((2 : Int) ^ b.toNat - 1) * 2) := by
    show ((L * n * ((2 : Int) ^ b.toNat - 1).toNat * 2 : Nat) : Int) = _
    rw [Int.natCast_mul, Int.natCast_mul, Int.natCast_mul, show ((((2 : Int) ^ b.toNat - 1).toNat : Nat) : Int) = (2 : Int) ^ b.toNat - 1 by omega]
    rfl
  generalize tnN n L b = TN at HE hle
  generalize (2 : Int) ^ b.toNat = Bs at HB HE hB1 hB2
  have hLn : (L : Int) * (n : Int) ≤ 30 * 16 := Int.mul_le_mul (by omega) (by omega) (by omega) (by omega)
  have hLn0 : 0 ≤ (L : Int) * (n : Int) := Int.mul_nonneg (by omega) (by omega)
  have e1 : IntKind.i64.wrap ((L : Int) * (n : Int)) = (L : Int) * (n : Int) := IntWalk.i64_in _ (by omega)
  obtain ⟨M, hM⟩ : ∃ M, M = (L : Int) * (n : Int) := ⟨_, rfl⟩
  rw [← hM] at hLn hLn0 HE
  replace e1 : IntKind.i64.wrap ((L : Int) * (n : Int)) = M := by rw [e1, hM]
  have hMB : M * (Bs - 1) ≤ 480 * 255 := Int.mul_le_mul (by omega) (by omega) (by omega) (by omega)
  have hMB0 : 0 ≤ M * (Bs - 1) := Int.mul_nonneg (by omega) (by omega)
  obtain ⟨K, hK⟩ : ∃ K, K = M * (Bs - 1) := ⟨_, rfl⟩
  rw [← hK] at hMB hMB0 HE
  have e2 : IntKind.i64.wrap (M * (Bs - 1)) = K := by rw [← hK]; exact IntWalk.i64_in _ (by omega)
  have e4 : IntKind.i64.wrap (K * 2) = (TN : Int) := by rw [HE.out]; exact IntWalk.i64_in _ (by omega)
  have E3 : Hid (IntKind.i64.wrap (Bs - 1) = Bs - 1) := IntWalk.i64_in _ (by omega)
  have E1 : Hid _ := e1
  have E2 : Hid _ := e2
  have E4 : Hid _ := e4
  clear e1 e2 e4 hM hK
  clear hL HE
  obtain ⟨W, hW⟩ : ∃ W, W = w.alloc (.cells #[.int .i64 n, .int .i64 t, .int .i64 q, .int .i64 b] 28) := ⟨_, rfl⟩
  have huW : Up w W := by rw [hW]; exact (Up.refl _).alloc _
  have hS0 : W.cell? ⟨w.heap.size, 0, none⟩ = some (.int .i64 (n : Int)) := by rw [hW]; simp [go_sem]
  have hS1 : W.cell? ⟨w.heap.size, 1, none⟩ = some (.int .i64 t) := by rw [hW]; simp [go_sem]
  have hS2 : W.cell? ⟨w.heap.size, 2, none⟩ = some (.int .i64 q) := by rw [hW]; simp [go_sem]
  have hS3 : W.cell? ⟨w.heap.size, 3, none⟩ = some (.int .i64 b) := by rw [hW]; simp [go_sem]
  go_enter Tryz.func158, Tryz.ntmps158
  go_wp2_with fail
  rw [← hW]
  clear hW
  go_region_held3 (fun w' => w'.cell? ⟨w.heap.size, 0, none⟩ = some (.int .i64 (n : Int)) ∧ w'.cell? ⟨w.heap.size, 1, none⟩ = some (.int .i64 t) ∧ w'.cell? ⟨w.heap.size, 2, none⟩ = some (.int .i64 q) ∧ w'.cell? ⟨w.heap.size, 3, none⟩ = some (.int .i64 b))
    (first | go_keep | exact keepC4 hu2 (by assumption) | exact keepC4 hu3 (by assumption))
    ((first | (go_at_call 90; refine Calls.mono (HDg.out _) ?_; rintro r w2 ⟨rfl, hu2⟩) | (go_at_call 122; refine Calls.mono (HB.out _ hb hb2) ?_; rintro r w3 ⟨rfl, hu3⟩)))
  first | rw [E3.out, E1.out, E2.out, E4.out] | rw [E1.out, E2.out, E4.out]
  go_wp2_with fail
  go_ret
  exact ⟨rfl, huW.trans (Up.trans (Up.trans (Up.drew (Up.refl _)) hu2) hu3)⟩

end Go.Proofs.YtcjhgbljhpflfabGreat

namespace Go.Proofs.YtcjhgbljhpflfabGreat
open Go.RowKit
set_option linter.unusedVariables false
set_option maxRecDepth 100000

/-- no bound that fits -/
abbrev TurnNoC (n t E0 : Nat) (q b : Int) (g0 c0 g1 c1 H cap L : Nat) (w : World) : Prop :=
  Calls Tryz.prog 136 #[.agg #[.int .i64 n, .int .i64 t, .int .i64 q, .int .i64 b], .agg #[.int .i64 E0, .slice (some ⟨g0, 0, none⟩) n c0, .slice (some ⟨g1, 0, none⟩) n c1], .slice (some ⟨H, 0, none⟩) L cap] w fun r w' => r = .returned (.tuple #[.agg #[.int .i64 0, .slice none 0 0, .slice none 0 0], .bool false]) ∧ Up w w'

set_option maxHeartbeats 4000000 in
theorem cipherTurn_ok (n t E0 L : Nat) (q b : Int) (a0 a1 : List Int) (l : List UInt8) (g0 c0 g1 c1 H cap : Nat) (gs caps : Nat → Nat) (w : World) (g : NT n t) (hq : 2 ≤ q) (hq2 : q ≤ 1073741823) (hb : 1 ≤ b) (hb2 : b ≤ 8) (hL : DigOf q b L) (h0 : (E0 : Int) < q)
    (hfit : fitsB t q ((E0 + (q % (t : Int)).toNat + tnN n L b : Nat) : Int) = true) (l0 : a0.length = n) (l1 : a1.length = n) (d0 : Bnd a0 4294967296) (d1 : Bnd a1 4294967296) (htn : tnB l (2 * n * L) q = true) (i0 : IsI w g0 a0) (i1 : IsI w g1 a1) (hR : RowsAt w H (2 * L) n gs caps (tkP l n)) :
    Calls Tryz.prog 136 #[.agg #[.int .i64 n, .int .i64 t, .int .i64 q, .int .i64 b], .agg #[.int .i64 E0, .slice (some ⟨g0, 0, none⟩) n c0, .slice (some ⟨g1, 0, none⟩) n c1], .slice (some ⟨H, 0, none⟩) L cap] w fun r w' => ∃ h0 k0 h1 k1, r = .returned (.tuple #[.agg #[.int .i64 ((E0 + (q % (t : Int)).toNat + tnN n L b : Nat) : Int), .slice (some ⟨h0, 0, none⟩) n k0, .slice (some ⟨h1, 0, none⟩) n k1], .bool true]) ∧ IsI w' h0 (turn0 n q (2 ^ b.toNat) (cubI n a0 q) (cubI n a1 q) l L) ∧ IsI w' h1 (turn1 n q (2 ^ b.toNat) (cubI n a1 q) l L) ∧ Up w w' := by
  have hL30 := hL.le hb hq2
  have hL1 := hL.pos hq
  have ht := g.t3
  have ht2 := g.ht
  obtain ⟨hd1, hd2, hd3⟩ := g.half
  have hm := mod_bounds (show (0 : Int) < (t : Int) by omega) q
  obtain ⟨_, hB1, hB2⟩ := pow_b b hb hb2
  have HN : Hid _ := g.hn
  have HB : Hid _ := Base_calls n t q b
  have HF : Hid _ := hfit
  have HRR : Hid (∀ W, Calls Tryz.prog 133 #[.agg #[.int .i64 n, .int .i64 t, .int .i64 q, .int .i64 b]] W fun r w' => r = .returned (.int .i64 ((q % (t : Int)).toNat : Int)) ∧ Up W w') := fun W => by
    have := Rest_calls n t q b W (by omega) (by omega) (by omega) hq2
    rw [show ((q % (t : Int)).toNat : Int) = q % (t : Int) by omega]
    exact this
  have HTN : Hid (∀ W, Calls Tryz.prog 158 #[.agg #[.int .i64 n, .int .i64 t, .int .i64 q, .int .i64 b]] W fun r w' => r = .returned (.int .i64 (tnN n L b : Nat)) ∧ Up W w') := fun W => turnNoise_calls n L t q b W (by omega) hq hq2 hb hb2 hL
  have hTb := tnN_le n L b (by omega) hL30 hb hb2
  have hRb : (q % (t : Int)).toNat ≤ 1021 := by omega
  generalize (q % (t : Int)).toNat = R at HF HRR hRb
  generalize tnN n L b = TN at HF HTN hTb
  have e2 : IntKind.i64.wrap ((E0 : Int) + (R : Int)) = (E0 : Int) + (R : Int) := IntWalk.i64_in _ (by omega)
  have e3 : IntKind.i64.wrap ((E0 : Int) + (R : Int) + (TN : Int)) = ((E0 + R + TN : Nat) : Int) := by rw [IntWalk.i64_in _ (by omega)]; omega
  generalize E0 + R + TN = S at e3 HF
  have L0 : Hid _ := l0
  have L1 : Hid _ := l1
  have D0 : Hid _ := d0
  have D1 : Hid _ := d1
  have HP : Hid (∀ k, k < 2 * L → Bnd (tkP l n k) 1073741824) := fun k hk i => by
    rcases Nat.lt_or_ge i n with h | h
    · have := tkP_bounds l n k (2 * n * L) q htn (by rw [Nat.mul_comm 2 n, Nat.mul_assoc]; exact Nat.mul_le_mul_left n hk) i h
      omega
    · rw [getD_out _ _ (by rw [tkP_length]; exact h)]
      omega
  have HT0 : Hid (∀ i, turn0 n q (2 ^ b.toNat) (cubI n a0 q) (cubI n a1 q) l (i + 1) = plusI n (turn0 n q (2 ^ b.toNat) (cubI n a0 q) (cubI n a1 q) l i) (timesI n (tkP l n (2 * i)) (digI n (cubI n a1 q) (2 ^ b.toNat) i) q) q) := fun i => rfl
  have HT1 : Hid (∀ i, turn1 n q (2 ^ b.toNat) (cubI n a1 q) l (i + 1) = plusI n (turn1 n q (2 ^ b.toNat) (cubI n a1 q) l i) (timesI n (tkP l n (2 * i + 1)) (digI n (cubI n a1 q) (2 ^ b.toNat) i) q) q) := fun i => rfl
  clear hm hfit l0 l1 d0 d1 hL htn
  have HZ0 : Hid (turn0 n q (2 ^ b.toNat) (cubI n a0 q) (cubI n a1 q) l 0 = cubI n a0 q) := rfl
  have HZ1 : Hid (turn1 n q (2 ^ b.toNat) (cubI n a1 q) l 0 = (List.range n).map fun _ => 0) := rfl
  have HTb0 : Hid (∀ i, Bnd (turn0 n q (2 ^ b.toNat) (cubI n a0 q) (cubI n a1 q) l i) 4294967296) := fun i => by
    cases i with
    | zero => exact cubI_bnd n a0 q _ (by omega) (by omega)
    | succ i => exact plusI_bnd _ _ _ _ _ (by omega) (by omega)
  have HTb1 : Hid (∀ i, Bnd (turn1 n q (2 ^ b.toNat) (cubI n a1 q) l i) 4294967296) := fun i => by
    cases i with
    | zero => exact Bnd_map (by omega) fun _ _ => by omega
    | succ i => exact plusI_bnd _ _ _ _ _ (by omega) (by omega)
  have HTl0 : Hid (∀ i, (turn0 n q (2 ^ b.toNat) (cubI n a0 q) (cubI n a1 q) l i).length = n) := fun i => turn0_length _ _ _ _ _ _ _ (cubI_length _ _ _)
  have HTl1 : Hid (∀ i, (turn1 n q (2 ^ b.toNat) (cubI n a1 q) l i).length = n) := fun i => by
    cases i with
    | zero => simp [turn1]
    | succ i => exact plusI_length _ _ _ _
  have HRl : Hid (∀ i, (restI n (cubI n a1 q) (2 ^ b.toNat) i).length = n) := fun i => restI_length _ _ _ _
  have HRb : Hid (∀ i j, 0 ≤ (restI n (cubI n a1 q) (2 ^ b.toNat) i).getD j 0 ∧ (restI n (cubI n a1 q) (2 ^ b.toNat) i).getD j 0 ≤ 4294967296) := fun i j => rest_bnd n a1 q _ (by omega) hq2 (by omega) i j
  have HRd : Hid _ := rest_dig n (cubI n a1 q) (2 ^ b.toNat)
  have HRn : Hid _ := restI_next n (cubI n a1 q) (2 ^ b.toNat) (by omega)
  have HR0 : Hid (cubI n a1 q = restI n (cubI n a1 q) (2 ^ b.toNat) 0) := restI_zero n _ _ (cubI_length _ _ _)
  have HDb : Hid (∀ i, Bnd (digI n (cubI n a1 q) (2 ^ b.toNat) i) 1073741824) := fun i => digI_bnd2 n _ _ i (by omega) (by omega)
  have HDl : Hid (∀ i, (digI n (cubI n a1 q) (2 ^ b.toNat) i).length = n) := fun i => digI_length _ _ _ _
  have HPl : Hid (∀ k, (tkP l n k).length = n) := fun k => tkP_length _ _ _
  generalize digI n (cubI n a1 q) (2 ^ b.toNat) = DG at HT0 HT1 HRd HDb HDl
  generalize turn0 n q (2 ^ b.toNat) (cubI n a0 q) (cubI n a1 q) l = T0 at HT0 HZ0 HTb0 HTl0
  generalize turn1 n q (2 ^ b.toNat) (cubI n a1 q) l = T1 at HT1 HZ1 HTb1 HTl1
  generalize restI n (cubI n a1 q) (2 ^ b.toNat) = RS at HRl HRb HRd HRn HR0
  generalize tkP l n = TP at HT0 HT1 HP hR HPl
  generalize (2 : Int) ^ b.toNat = Bs at HB hB1 hB2 HRd HRn
  have HR : Hid _ := hR
  obtain ⟨W, hW⟩ : ∃ W, W = ((w.alloc (.cells #[.int .i64 n, .int .i64 t, .int .i64 q, .int .i64 b] 28)).alloc (.cells #[.int .i64 E0, .slice (some ⟨g0, 0, none⟩) n c0, .slice (some ⟨g1, 0, none⟩) n c1] 84)).alloc (.cells #[.int .i64 0, .slice none 0 0, .slice none 0 0] 84) := ⟨_, rfl⟩
  have huW : Up w W := by rw [hW]; exact (((Up.refl _).alloc _).alloc _).alloc _
  have hsW : W.heap.size = w.heap.size + 3 := by rw [hW]; simp
  have hS0 : W.cell? ⟨w.heap.size, 0, none⟩ = some (.int .i64 (n : Int)) := by rw [hW]; simp [go_sem]
  have hS1 : W.cell? ⟨w.heap.size, 1, none⟩ = some (.int .i64 (t : Int)) := by rw [hW]; simp [go_sem]
  have hS2 : W.cell? ⟨w.heap.size, 2, none⟩ = some (.int .i64 q) := by rw [hW]; simp [go_sem]
  have hS3 : W.cell? ⟨w.heap.size, 3, none⟩ = some (.int .i64 b) := by rw [hW]; simp [go_sem]
  have hX0 : W.cell? ⟨w.heap.size + 1, 0, none⟩ = some (.int .i64 (E0 : Int)) := by rw [hW]; simp [go_sem]
  have HX1 : Hid (W.cell? ⟨w.heap.size + 1, 1, none⟩ = some (.slice (some ⟨g0, 0, none⟩) n c0)) := show W.cell? ⟨w.heap.size + 1, 1, none⟩ = some (.slice (some ⟨g0, 0, none⟩) n c0) from by rw [hW]; simp [go_sem]
  have HX2 : Hid (W.cell? ⟨w.heap.size + 1, 2, none⟩ = some (.slice (some ⟨g1, 0, none⟩) n c1)) := show W.cell? ⟨w.heap.size + 1, 2, none⟩ = some (.slice (some ⟨g1, 0, none⟩) n c1) from by rw [hW]; simp [go_sem]
  have HK0 : Hid (W.cell? ⟨w.heap.size + 2, 0, none⟩ = some (.int .i64 0)) := show W.cell? ⟨w.heap.size + 2, 0, none⟩ = some (.int .i64 0) from by rw [hW]; simp [go_sem]
  have HK1 : Hid (W.cell? ⟨w.heap.size + 2, 1, none⟩ = some (.slice none 0 0)) := show W.cell? ⟨w.heap.size + 2, 1, none⟩ = some (.slice none 0 0) from by rw [hW]; simp [go_sem]
  have HK2 : Hid (W.cell? ⟨w.heap.size + 2, 2, none⟩ = some (.slice none 0 0)) := show W.cell? ⟨w.heap.size + 2, 2, none⟩ = some (.slice none 0 0) from by rw [hW]; simp [go_sem]
  have HZ : Hid (∀ o, W.frozen? ⟨w.heap.size + 2, o, none⟩ = false) := show ∀ o, W.frozen? ⟨w.heap.size + 2, o, none⟩ = false from fun o => by rw [hW]; simp [go_sem]
  have HiF : Hid _ := info_parts info_int
  clear hR
  go_enter Tryz.func136, Tryz.ntmps136
  go_wp2_with fail
  rw [← hW]
  clear hW
  go_region_held3 (fun w' => w'.cell? ⟨w.heap.size, 0, none⟩ = some (.int .i64 (n : Int)) ∧ w'.cell? ⟨w.heap.size, 1, none⟩ = some (.int .i64 (t : Int)) ∧ w'.cell? ⟨w.heap.size, 2, none⟩ = some (.int .i64 q) ∧ w'.cell? ⟨w.heap.size, 3, none⟩ = some (.int .i64 b) ∧ w'.cell? ⟨w.heap.size + 1, 0, none⟩ = some (.int .i64 (E0 : Int)))
    (first | go_keep | exact keepC5 hu2 (by assumption) | exact keepC5 hu3 (by assumption))
    ((first | (go_at_call 133; refine Calls.mono (HRR.out _) ?_; rintro r w2 ⟨rfl, hu2⟩) | (go_at_call 158; refine Calls.mono (HTN.out _) ?_; rintro r w3 ⟨rfl, hu3⟩)))
  have hu03 : Up W w3 := Up.trans (Up.trans (Up.drew (Up.refl _)) hu2) hu3
  clear hu2 hu3 e2 e3
  have hT0 := keepC hu03 hS0
  have hT1 := keepC hu03 hS1
  have hT2 := keepC hu03 hS2
  have hT3 := keepC hu03 hS3
  clear hX0
  go_wp2_with fail
  refine (Fits_calls _ _ _ _ _ _ (by omega) (by omega) (by omega) hq2 (by omega)).mono ?_
  rintro r w4 ⟨rfl, hu4⟩
  rw [HF.out]
  have hu04 := hu03.trans hu4
  clear hT0 hT1 hT2 hT3 hu4 hu03
  have hT2 := keepC hu04 hS2
  have hX1 := keepC hu04 HX1.out
  have j0 := i0.up (huW.trans hu04)
  go_wp2_with fail
  refine (ringTurn_calls n a0 g0 c0 q _ HN.out L0.out (by omega) hq2 D0.out j0).mono ?_
  rintro r w5 ⟨x0, rfl, ho5, hu5⟩
  rw [← HZ0.out] at ho5
  have hu05 := hu04.trans hu5
  clear hT2 hX1 j0 hu04 hu5
  obtain ⟨f0, hi0, hz0, hz1, hz2⟩ := HiF.out
  go_wp2_with (at_make; refine wpList_make_full _ rfl _ _ 54 rfl w5.heap.size 3 f0 (.int .i64 0) 1 Tryz.underlying54 hi0 hz0 hz1 .i64 .i64 _ _ n rfl rfl rfl rfl (by rw [hz2]; omega) (by unfold maxLen; omega) (Nat.le_refl _) ?_)
  intro w6 hown6 hg6
  have ho6 := made_row hown6 (fun _ => 0) (fun _ => rfl)
  rw [← HZ1.out] at ho6
  have hu56 := Up.made hg6
  have hu06 := hu05.trans hu56
  have hT2 := keepC hu06 hS2
  have hX2 := keepC hu06 HX2.out
  have j1 := i1.up (huW.trans hu06)
  have k0 := (OwnI.isI ho5).up hu56
  have k1 := OwnI.isI ho6
  clear hown6 hg6 ho5 ho6 hi0 hz0 hz1 hz2 hu05 hu56
  go_wp2_with fail
  refine (ringTurn_calls n a1 g1 c1 q _ HN.out L1.out (by omega) hq2 D1.out j1).mono ?_
  rintro r w7 ⟨z0, rfl, ho7, hu7⟩
  rw [HR0.out] at ho7
  have k2 := OwnI.isI ho7
  have hu07 := hu06.trans hu7
  replace k0 := k0.up hu7
  replace k1 := k1.up hu7
  clear ho7 hu7 hT2 hX2 j1 hu06
  go_wp2_with fail
  go_loopw [9, 10, 11, 44] (fun x y z j wr => ∃ (i x0 x1 y0 y1 z0 z1 : Nat), i ≤ L ∧ j = .int .i64 (i : Int) ∧ x = .slice (some ⟨x0, 0, none⟩) n x1 ∧ y = .slice (some ⟨y0, 0, none⟩) n y1 ∧ z = .slice (some ⟨z0, 0, none⟩) n z1 ∧ IsI wr x0 (T0 i) ∧ IsI wr y0 (T1 i) ∧ IsI wr z0 (RS i) ∧ Up W wr) (fun _ _ _ j _ => L - (intOf j).toNat)
  case atStart => exact ⟨0, _, _, _, _, _, _, Nat.zero_le _, rfl, rfl, rfl, rfl, k0, k1, k2, hu07⟩
  case round =>
    clear k0 k1 k2 hu07
    obtain ⟨i, x0, x1, y0, y1, z0, z1, hi, rfl, rfl, rfl, rfl, k0, k1, k2, hu⟩ := hrel
    by_cases hlt : i < L
    · have hc0 : wr.cell? ⟨H, i * 2, none⟩ = some (.slice (some ⟨gs (2 * i), 0, none⟩) n (caps (2 * i))) := by rw [Nat.mul_comm i 2]; exact (HR.out.up (huW.trans hu)).head (2 * i) (by omega)
      have hc1 : wr.cell? ⟨H, i * 2 + 1, none⟩ = some (.slice (some ⟨gs (2 * i + 1), 0, none⟩) n (caps (2 * i + 1))) := by rw [Nat.mul_comm i 2]; exact (HR.out.up (huW.trans hu)).head (2 * i + 1) (by omega)
      have r0 := (HR.out.up (huW.trans hu)).row (2 * i) (by omega)
      have r1 := (HR.out.up (huW.trans hu)).row (2 * i + 1) (by omega)
      have hT0 := keepC hu hS0
      have hT1 := keepC hu hS1
      have hT2 := keepC hu hS2
      have hT3 := keepC hu hS3
      have hltw : w.heap.size < wr.heap.size := by have := Up.le hu; omega
      generalize gs (2 * i) = b0 at hc0 r0
      generalize caps (2 * i) = b1 at hc0
      generalize gs (2 * i + 1) = b2 at hc1 r1
      generalize caps (2 * i + 1) = b3 at hc1
      have HPl0 : Hid _ := HPl.out (2 * i)
      have HPl1 : Hid _ := HPl.out (2 * i + 1)
      have HPb0 : Hid _ := HP.out (2 * i) (by omega)
      have HPb1 : Hid _ := HP.out (2 * i + 1) (by omega)
      have HT0i : Hid _ := HT0.out i
      have HT1i : Hid _ := HT1.out i
      generalize TP (2 * i) = P0 at r0 HPl0 HPb0 HT0i
      generalize TP (2 * i + 1) = P1 at r1 HPl1 HPb1 HT1i
      go_wp2_with fail
      refine Calls.mono (HB.out _ hb hb2) ?_
      rintro r v1 ⟨rfl, hv1⟩
      have q0 : v1.cell? ⟨wr.heap.size, 0, none⟩ = some (.slice (some ⟨b0, 0, none⟩) n b1) := (hv1.cell (p := ⟨wr.heap.size, 0, none⟩) (by simp)).trans (by simp)
      have q1 : v1.cell? ⟨wr.heap.size, 1, none⟩ = some (.slice (some ⟨b2, 0, none⟩) n b3) := (hv1.cell (p := ⟨wr.heap.size, 1, none⟩) (by simp)).trans (by simp)
      have hw1 : Up wr v1 := (Up.alloc (Up.refl wr) _).trans hv1
      clear hc0 hc1 hv1 hT0 hT1 hT2 hT3
      go_wp2_with fail
      refine (split_calls n (RS i) z0 z1 Bs _ (by omega) (HRl.out i) hB2 hB1 (HRb.out i) (k2.up hw1)).mono ?_
      rintro r v2 ⟨va, ve, rfl, hoa, hoe, hv2⟩
      rw [HRd.out i] at hoa
      rw [HRn.out i] at hoe
      obtain ⟨d0, d1, rfl, _, idg⟩ := hoa.is (ne_nil_of_length (HDl.out i) (by omega))
      obtain ⟨f0, f1, rfl, _, irs⟩ := hoe.is (ne_nil_of_length (HRl.out (i + 1)) (by omega))
      rw [HDl.out, HRl.out]
      have hw2 := hw1.trans hv2
      have s0 := keepC hv2 q0
      have s1 := keepC hv2 q1
      have hT2 := keepC (hu.trans hw2) hS2
      clear q0 q1 hoa hoe
      go_wp2_with fail
      refine (addProduct_calls n (T0 i) (DG i) P0 x0 d0 b0 x1 d1 b1 q _ (by omega) (by omega) (HTl0.out i) (HDl.out i) HPl0.out (by omega) hq2 (HTb0.out i) (HDb.out i) HPb0.out (k0.up hw2) idg (r0.up hw2)).mono ?_
      rintro r v3 ⟨m0, m1, rfl, kx, hv3⟩
      rw [← HT0i.out] at kx
      have hw3 := hw2.trans hv3
      have s3 := keepC hv3 s1
      clear hT2 s0 s1
      have hT2 := keepC (hu.trans hw3) hS2
      go_wp2_with fail
      refine (addProduct_calls n (T1 i) (DG i) P1 y0 d0 b2 y1 d1 b3 q _ (by omega) (by omega) (HTl1.out i) (HDl.out i) HPl1.out (by omega) hq2 (HTb1.out i) (HDb.out i) HPb1.out (k1.up hw3) (idg.up hv3) (r1.up hw3)).mono ?_
      rintro r v4 ⟨o0, o1, rfl, ky, hv4⟩
      rw [← HT1i.out] at ky
      have hw4 := hw3.trans hv4
      clear hT2 s3
      go_wp2_with fail
      go_roundw
      case rel => exact ⟨i + 1, _, _, _, _, _, _, by omega, by go_num, rfl, rfl, rfl, kx.up hv4, ky, irs.up (hv3.trans hv4), hu.trans hw4⟩
      case measure => simp [intOf]; omega
    · obtain rfl : i = L := by omega
      have hk0 := keepC hu HK0.out
      have hk1 := keepC hu HK1.out
      have hk2 := keepC hu HK2.out
      have hz0 := ((bcell hu).2 _ _ (by omega)).trans (HZ.out 0)
      have hz1 := ((bcell hu).2 _ _ (by omega)).trans (HZ.out 1)
      have hz2 := ((bcell hu).2 _ _ (by omega)).trans (HZ.out 2)
      have n0 := k0.ne (by rw [HTl0.out]; omega) hk1
      have n1 := k1.ne (by rw [HTl1.out]; omega) hk1
      have hall : Below w.heap.size w wr := huW.trans hu
      go_wp2_with fail
      refine bodyPost_ret (v := .tuple #[.agg #[.int .i64 (S : Int), .slice (some ⟨x0, 0, none⟩) n x1, .slice (some ⟨y0, 0, none⟩) n y1], .bool true]) (by simp [results, Tryz.results136, go_sem, hk0, hk1, hk2]) rfl ⟨x0, x1, y0, y1, rfl, ?_, ?_, ?_⟩
      · exact ((k0.set n0 _ _).set n0 _ _).set n0 _ _
      · exact ((k1.set n1 _ _).set n1 _ _).set n1 _ _
      · exact ((hall.setCell (by dsimp only; omega) _).setCell (by dsimp only; omega) _).setCell (by dsimp only; omega) _

set_option maxHeartbeats 4000000 in
theorem cipherTurn_no (n t E0 L : Nat) (q b : Int) (g0 c0 g1 c1 H cap : Nat) (w : World) (g : NT n t) (hq : 2 ≤ q) (hq2 : q ≤ 1073741823) (hb : 1 ≤ b) (hb2 : b ≤ 8) (hL : DigOf q b L) (h0 : (E0 : Int) < q)
    (hfit : fitsB t q ((E0 + (q % (t : Int)).toNat + tnN n L b : Nat) : Int) = false) : TurnNoC n t E0 q b g0 c0 g1 c1 H cap L w := by
  have hL30 := hL.le hb hq2
  have ht := g.t3
  have ht2 := g.ht
  obtain ⟨hd1, hd2, hd3⟩ := g.half
  have hm := mod_bounds (show (0 : Int) < (t : Int) by omega) q
  have HF : Hid _ := hfit
  have HRR : Hid (∀ W, Calls Tryz.prog 133 #[.agg #[.int .i64 n, .int .i64 t, .int .i64 q, .int .i64 b]] W fun r w' => r = .returned (.int .i64 ((q % (t : Int)).toNat : Int)) ∧ Up W w') := fun W => by
    have := Rest_calls n t q b W (by omega) (by omega) (by omega) hq2
    rw [show ((q % (t : Int)).toNat : Int) = q % (t : Int) by omega]
    exact this
  have HTN : Hid (∀ W, Calls Tryz.prog 158 #[.agg #[.int .i64 n, .int .i64 t, .int .i64 q, .int .i64 b]] W fun r w' => r = .returned (.int .i64 (tnN n L b : Nat)) ∧ Up W w') := fun W => turnNoise_calls n L t q b W (by omega) hq hq2 hb hb2 hL
  have hTb := tnN_le n L b (by omega) hL30 hb hb2
  have hRb : (q % (t : Int)).toNat ≤ 1021 := by omega
  generalize (q % (t : Int)).toNat = R at HF HRR hRb
  generalize tnN n L b = TN at HF HTN hTb
  have e2 : IntKind.i64.wrap ((E0 : Int) + (R : Int)) = (E0 : Int) + (R : Int) := IntWalk.i64_in _ (by omega)
  have e3 : IntKind.i64.wrap ((E0 : Int) + (R : Int) + (TN : Int)) = ((E0 + R + TN : Nat) : Int) := by rw [IntWalk.i64_in _ (by omega)]; omega
  generalize E0 + R + TN = S at e3 HF
  clear hm hfit hL
  obtain ⟨W, hW⟩ : ∃ W, W = ((w.alloc (.cells #[.int .i64 n, .int .i64 t, .int .i64 q, .int .i64 b] 28)).alloc (.cells #[.int .i64 E0, .slice (some ⟨g0, 0, none⟩) n c0, .slice (some ⟨g1, 0, none⟩) n c1] 84)).alloc (.cells #[.int .i64 0, .slice none 0 0, .slice none 0 0] 84) := ⟨_, rfl⟩
  have huW : Up w W := by rw [hW]; exact (((Up.refl _).alloc _).alloc _).alloc _
  have hsW : W.heap.size = w.heap.size + 3 := by rw [hW]; simp
  have hS0 : W.cell? ⟨w.heap.size, 0, none⟩ = some (.int .i64 (n : Int)) := by rw [hW]; simp [go_sem]
  have hS1 : W.cell? ⟨w.heap.size, 1, none⟩ = some (.int .i64 (t : Int)) := by rw [hW]; simp [go_sem]
  have hS2 : W.cell? ⟨w.heap.size, 2, none⟩ = some (.int .i64 q) := by rw [hW]; simp [go_sem]
  have hS3 : W.cell? ⟨w.heap.size, 3, none⟩ = some (.int .i64 b) := by rw [hW]; simp [go_sem]
  have hX0 : W.cell? ⟨w.heap.size + 1, 0, none⟩ = some (.int .i64 (E0 : Int)) := by rw [hW]; simp [go_sem]
  have HK0 : Hid (W.cell? ⟨w.heap.size + 2, 0, none⟩ = some (.int .i64 0)) := show W.cell? ⟨w.heap.size + 2, 0, none⟩ = some (.int .i64 0) from by rw [hW]; simp [go_sem]
  have HK1 : Hid (W.cell? ⟨w.heap.size + 2, 1, none⟩ = some (.slice none 0 0)) := show W.cell? ⟨w.heap.size + 2, 1, none⟩ = some (.slice none 0 0) from by rw [hW]; simp [go_sem]
  have HK2 : Hid (W.cell? ⟨w.heap.size + 2, 2, none⟩ = some (.slice none 0 0)) := show W.cell? ⟨w.heap.size + 2, 2, none⟩ = some (.slice none 0 0) from by rw [hW]; simp [go_sem]
  have HZ : Hid (∀ o, W.frozen? ⟨w.heap.size + 2, o, none⟩ = false) := show ∀ o, W.frozen? ⟨w.heap.size + 2, o, none⟩ = false from fun o => by rw [hW]; simp [go_sem]
  go_enter Tryz.func136, Tryz.ntmps136
  go_wp2_with fail
  rw [← hW]
  clear hW
  go_region_held3 (fun w' => w'.cell? ⟨w.heap.size, 0, none⟩ = some (.int .i64 (n : Int)) ∧ w'.cell? ⟨w.heap.size, 1, none⟩ = some (.int .i64 (t : Int)) ∧ w'.cell? ⟨w.heap.size, 2, none⟩ = some (.int .i64 q) ∧ w'.cell? ⟨w.heap.size, 3, none⟩ = some (.int .i64 b) ∧ w'.cell? ⟨w.heap.size + 1, 0, none⟩ = some (.int .i64 (E0 : Int)))
    (first | go_keep | exact keepC5 hu2 (by assumption) | exact keepC5 hu3 (by assumption))
    ((first | (go_at_call 133; refine Calls.mono (HRR.out _) ?_; rintro r w2 ⟨rfl, hu2⟩) | (go_at_call 158; refine Calls.mono (HTN.out _) ?_; rintro r w3 ⟨rfl, hu3⟩)))
  have hu03 : Up W w3 := Up.trans (Up.trans (Up.drew (Up.refl _)) hu2) hu3
  clear hu2 hu3 e2 e3
  have hT0 := keepC hu03 hS0
  have hT1 := keepC hu03 hS1
  have hT2 := keepC hu03 hS2
  have hT3 := keepC hu03 hS3
  clear hX0
  go_wp2_with fail
  refine (Fits_calls _ _ _ _ _ _ (by omega) (by omega) (by omega) hq2 (by omega)).mono ?_
  rintro r w4 ⟨rfl, hu4⟩
  rw [HF.out]
  have hu04 := hu03.trans hu4
  clear hT0 hT1 hT2 hT3 hu4 hu03
  have hk0 := keepC hu04 HK0.out
  have hk1 := keepC hu04 HK1.out
  have hk2 := keepC hu04 HK2.out
  have hz0 := ((bcell hu04).2 _ _ (by omega)).trans (HZ.out 0)
  have hz1 := ((bcell hu04).2 _ _ (by omega)).trans (HZ.out 1)
  have hz2 := ((bcell hu04).2 _ _ (by omega)).trans (HZ.out 2)
  have hall : Below w.heap.size w w4 := huW.trans hu04
  go_wp2_with fail
  refine bodyPost_ret (v := .tuple #[.agg #[.int .i64 0, .slice none 0 0, .slice none 0 0], .bool false]) (by simp [results, Tryz.results136, go_sem, hk0, hk1, hk2]) rfl ⟨rfl, ?_⟩
  exact ((hall.setCell (by dsimp only; omega) _).setCell (by dsimp only; omega) _).setCell (by dsimp only; omega) _

end Go.Proofs.YtcjhgbljhpflfabGreat
