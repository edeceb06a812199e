/-
  Walks: the program's reading of a turning key; its digits, products and sums.
-/
import Derived.Test.YtjiekfplgmfgiaaCodeW
import Derived.Test.YtjiekfplgmfgiaaWalksT
namespace Go.Proofs.Ytjiekfplgmfgiaa
open Go.RowKit
set_option linter.unusedVariables false
set_option maxRecDepth 100000

/-- an append of a pair at a step of a region that draws -/
theorem step_append_pair {ops : Array Oper} {o : Oper} {a : Act} {K : Act → World → Prop} {Q : Exit → Act → World → Prop} {E : Prop} (W : World) (y0 y1 : Value) (hy0 : y0.oneCell' = true) (hy1 : y1.oneCell' = true) (g : Nat) (hgd : o.guard = none) (s x : Operand)
    (ho : o.op = .call { callee := .builtin .append, args := #[s, x], argTypes := #[80, 80] })
    (base : Nat) (v : Value) (k : Nat) (xs : List Value) (hs : a.eval s = v) (hown : W.ownsRow base 123 2 v k xs) (hx : a.eval x = .slice (some ⟨g, 0, none⟩) 1 1) (hc : W.cell? ⟨g, 0, none⟩ = some y0 ∧ W.cell? ⟨g, 1, none⟩ = some y1)
    (hlen : k ≤ 1048576) (hbase : base ≤ W.heap.size)
    (h : ∀ v' w', w'.ownsRow base 123 2 v' (k + 1) (xs ++ [y0, y1]) → W.grownBy w' v.ownBlock → Below base W w' → K (a.put o.dst v') w') :
    if Region.wanted o (yielded ops a.tmps) = true then Oper.wp Try.prog o a W K Q else E := by
  have hw : Region.wanted o (yielded ops a.tmps) = true := by simp [Region.wanted, hgd]
  rw [if_pos hw]
  obtain ⟨i0, hi, hz0, hz1, hz2⟩ := info_parts info_pair
  refine wp_append_own W s x 80 ho base 123 i0 (.agg #[.slice none 0 0, .slice none 0 0]) 2 48 Try.underlying80 hi hz0 hz1 hz2 rfl (by decide) v k xs hs hown
    ⟨g, 0, none⟩ 1 1 [y0, y1] hx rfl ?_ ?_ ?_ ?_ hbase ?_
  · intro j u hj
    match j, hj with
    | 0, hj => simp at hj; subst hj; simpa [Addr.add] using hc.1
    | 1, hj => simp at hj; subst hj; simpa [Addr.add] using hc.2
  · intro u hu
    simp at hu
    rcases hu with rfl | rfl
    · exact hy0
    · exact hy1
  · unfold maxLen; omega
  · omega
  · intro v' w' h1 h2 h3
    exact h v' w' h1 h2 ((Below.refl _ _).grown h2 hbase (fun k hk => (World.ownsRow.lt hown k hk).1))

theorem tn_row (l : List UInt8) (n k : Nat) : rowL l.tail 4 n k = tkP l n k := by
  refine List.map_congr_left fun i _ => ?_
  rw [show l.tail = l.drop 1 by simp, numL_drop, show 1 + (k * (4 * n) + i * 4) = 1 + 4 * (n * k) + 4 * i by rw [Nat.mul_left_comm, Nat.mul_comm k n]; omega]

theorem tnB_chunks (l : List UInt8) (n L : Nat) (q : Int) : tnB l (2 * n * L) q = true ↔ 1 ≤ l.length ∧ byteL l 0 = 82 ∧ okL l.tail (2 * L * n) 4 q = true := by
  rw [tnB_iff, show 2 * n * L = 2 * L * n by rw [Nat.mul_assoc, Nat.mul_assoc, Nat.mul_comm n L]]
  constructor
  · rintro ⟨h1, h2, h3⟩
    exact ⟨by omega, h2, h3⟩
  · rintro ⟨h1, h2, h3⟩
    have := ((okL_iff _ _ _ _).1 h3).1
    rw [List.length_tail] at this
    exact ⟨by omega, h2, h3⟩

set_option maxHeartbeats 4000000 in
theorem ReadTurnKey_ok (n L : Nat) (t q b : Int) (s : ByteArray) (w : World) (hs : s.size ≤ maxLen) (hn : n ≤ 16) (hn1 : 1 ≤ n) (hq : 2 ≤ q) (hq2 : q ≤ 1073741823) (hb : 1 ≤ b) (hb2 : b ≤ 8) (hL : DigOf q b L) (h : tnB s.data.toList (2 * n * L) q = true) :
    Calls Try.prog 95 #[.agg #[.int .i64 n, .int .i64 t, .int .i64 q, .int .i64 b], .string s] w fun e w' => ∃ H cap gs caps, e = .returned (.tuple #[.slice (some ⟨H, 0, none⟩) L cap, .bool true]) ∧ RowsAt w' H (2 * L) n gs caps (tkP s.data.toList n) ∧ Up w w' := by
  have hL30 := hL.le hb hq2
  have hL1 := hL.pos hq
  obtain ⟨h1, h2, h3⟩ := (tnB_chunks _ _ _ _).1 h
  have h0 : 0 < s.size := Nat.lt_of_lt_of_le Nat.one_pos (by simpa using h1)
  rw [byteL_in s 0 h0] at h2
  have hne2 : (((s[0]'h0).toNat : Int) != 82) = false := by rw [h2]; rfl
  have hs1 : (1 : Int) ≤ (s.size : Int) := by omega
  have hs2 : (s.size : Int) ≤ 9223372036854775807 := by unfold maxLen at hs; omega
  have HDg : Hid (∀ W, Calls Try.prog 112 #[.agg #[.int .i64 n, .int .i64 t, .int .i64 q, .int .i64 b]] W fun e w' => e = .returned (.int .i64 (L : Int)) ∧ Up W w') := fun W => pDigits_calls n t q b L W hq hq2 hb hb2 hL
  have HLi : Hid (∀ W, Calls Try.prog 119 #[.string (s.extract 1 s.size), .int .i64 4, .int .i64 n, .int .i64 (2 * (L : Int)), .int .i64 q] W fun e w' => ∃ H cap gs caps, e = .returned (.tuple #[.slice (some ⟨H, 0, none⟩) (2 * L) cap, .bool true]) ∧ RowsAt w' H (2 * L) n gs caps (tkP s.data.toList n) ∧ Up W w') := fun W => by
    have := Lists_ok (s.extract 1 s.size) n (2 * L) 4 q W hn1 (by omega) (by omega) (by omega) (by omega) (by omega) (by rw [ext_tail]; exact h3)
    rw [ext_tail, show ((2 * L : Nat) : Int) = 2 * (L : Int) by omega] at this
    refine this.mono ?_
    rintro e w' ⟨H, cap, gs, caps, rfl, hR, _, hu⟩
    exact ⟨H, cap, gs, caps, rfl, hR.congr fun k _ => tn_row _ _ _, hu⟩
  have e0 : IntKind.i64.wrap (2 * (L : Int)) = 2 * (L : Int) := IntWalk.i64_in _ (by omega)
  generalize tkP s.data.toList n = TP at HLi
  clear h h1 h2 h3 hL
  obtain ⟨W, hW⟩ : ∃ W, W = w.alloc (.cells #[.int .i64 n, .int .i64 t, .int .i64 q, .int .i64 b] 26) := ⟨_, rfl⟩
  have huW : Up w W := by rw [hW]; exact (Up.refl _).alloc _
  have hsW : W.heap.size = w.heap.size + 1 := by rw [hW]; simp
  have hS0 : W.cell? ⟨w.heap.size, 0, none⟩ = some (.int .i64 (n : Int)) := by rw [hW]; simp [go_sem]
  have hS1 : W.cell? ⟨w.heap.size, 1, none⟩ = some (.int .i64 t) := by rw [hW]; simp [go_sem]
  have hS2 : W.cell? ⟨w.heap.size, 2, none⟩ = some (.int .i64 q) := by rw [hW]; simp [go_sem]
  have hS3 : W.cell? ⟨w.heap.size, 3, none⟩ = some (.int .i64 b) := by rw [hW]; simp [go_sem]
  go_enter Try.func95, Try.ntmps95
  go_wp2_with fail
  rw [← hW]
  clear hW
  go_region_held3 (fun w' => w'.cell? ⟨w.heap.size, 0, none⟩ = some (.int .i64 (n : Int)) ∧ w'.cell? ⟨w.heap.size, 1, none⟩ = some (.int .i64 t) ∧ w'.cell? ⟨w.heap.size, 2, none⟩ = some (.int .i64 q) ∧ w'.cell? ⟨w.heap.size, 3, none⟩ = some (.int .i64 b))
    (first | go_keep | exact keepC4 hu2 (by assumption) | exact keepC4 hu3 (by assumption))
    ((first | (go_at_call 112; refine Calls.mono (HDg.out _) ?_; rintro r w2 ⟨rfl, hu2⟩) | (go_at_call 119; refine Calls.mono (HLi.out _) ?_; rintro r w3 ⟨H, cap, gs, caps, rfl, hR, hu3⟩)))
  have hu03 : Up W w3 := Up.trans (Up.trans (Up.drew (Up.refl _)) hu2) hu3
  clear hu2 hu3 hS0 hS1 hS2 hS3
  go_wp2_with fail
  generalize hM : 2 * L = M at hR
  have HM : Hid _ := hM
  have hM60 : M ≤ 60 := by omega
  have hM2 : 2 ≤ M := by omega
  clear hM
  go_loopw [8, 9] (fun v j wr => ∃ (k i : Nat), Hid (i = 2 * k) ∧ k ≤ L ∧ i ≤ M ∧ j = .int .i64 (i : Int) ∧ wr.ownsRow w3.heap.size 123 2 v k (hdL n gs caps i) ∧ Up w3 wr) (fun _ j _ => M - (intOf j).toNat)
  case atStart => exact ⟨0, 0, rfl, Nat.zero_le _, Nat.zero_le _, rfl, World.ownsRow_nil _ _ _ _, Up.refl _⟩
  case round =>
    obtain ⟨k, i, HI, hk, hiM, rfl, hown, hu⟩ := hrel
    by_cases hlt : k < L
    · have hi1 : i + 1 < M := by have := HI.out; have := HM.out; omega
      have hc0 := (hR.up hu).head i (by omega)
      have hc1 := (hR.up hu).head (i + 1) (by omega)
      have hsz : w3.heap.size ≤ wr.heap.size := hu.size
      have e1 : IntKind.i64.wrap ((i : Int) + 1) = (i : Int) + 1 := IntWalk.i64_in _ (by omega)
      have hI0 : (0 : Int) ≤ (i : Int) := by omega
      have hI1 : (i : Int) < (M : Int) := by omega
      have hI2 : (0 : Int) ≤ (i : Int) + 1 := by omega
      have hI3 : (i : Int) + 1 < (M : Int) := by omega
      have eI : ((i : Int) + 1).toNat = i + 1 := by omega
      have HS : Hid (hdL n gs caps (i + 2) = hdL n gs caps i ++ [.slice (some ⟨gs i, 0, none⟩) n (caps i), .slice (some ⟨gs (i + 1), 0, none⟩) n (caps (i + 1))]) := by
        rw [show i + 2 = i + 1 + 1 from rfl, hdL_succ, hdL_succ, List.append_assoc]
        exact rfl
      generalize hdL n gs caps i = hds at hown HS
      generalize gs i = x0 at hc0 HS
      generalize gs (i + 1) = x1 at hc1 HS
      generalize caps i = y0 at hc0 HS
      generalize caps (i + 1) = y1 at hc1 HS
      have hcn : (wr.alloc (.cells #[.slice (some ⟨x0, 0, none⟩) n y0, .slice (some ⟨x1, 0, none⟩) n y1] 123)).drew.cell? ⟨wr.heap.size, 0, none⟩ = some (.slice (some ⟨x0, 0, none⟩) n y0) ∧ (wr.alloc (.cells #[.slice (some ⟨x0, 0, none⟩) n y0, .slice (some ⟨x1, 0, none⟩) n y1] 123)).drew.cell? ⟨wr.heap.size, 1, none⟩ = some (.slice (some ⟨x1, 0, none⟩) n y1) := by constructor <;> simp
      have hbs := Nat.le_trans hsz (Up.drew (Up.alloc (Up.refl wr) (.cells #[.slice (some ⟨x0, 0, none⟩) n y0, .slice (some ⟨x1, 0, none⟩) n y1] 123))).size
      go_wp2_with fail
      go_region_held3 (fun w' => w'.cell? ⟨H, i, none⟩ = some (.slice (some ⟨x0, 0, none⟩) n y0) ∧ w'.cell? ⟨H, i + 1, none⟩ = some (.slice (some ⟨x1, 0, none⟩) n y1))
        (first | go_keep | exact ⟨keep1 hb4 (by simpa using hR.lt) (And.left (by assumption)), keep1 hb4 (by simpa using hR.lt) (And.right (by assumption))⟩)
        ((first | (refine step_append_pair (wr.alloc (.cells #[.slice (some ⟨x0, 0, none⟩) n y0, .slice (some ⟨x1, 0, none⟩) n y1] 123)).drew (.slice (some ⟨x0, 0, none⟩) n y0) (.slice (some ⟨x1, 0, none⟩) n y1) rfl rfl wr.heap.size rfl (.tmp 40) (.tmp 51) rfl w3.heap.size _ k hds rfl (row_up hown (Up.drew (Up.alloc (Up.refl _) _))) rfl hcn (by omega) hbs ?_; intro v4 w4 hown4 hg4 hb4)))
      have hu4 : Up w3 w4 := Below.trans (Up.drew (Below.alloc hu hu.size _)) (by simpa using hb4)
      clear hcn hbs hc0 hc1 hb4 hg4
      go_wp2_with fail
      go_roundw
      case rel => exact ⟨k + 1, i + 2, by have := HI.out; show _ = _; omega, by omega, by omega, by go_num, by rw [HS.out]; exact hown4, hu4⟩
      case measure => simp [intOf]; omega
    · obtain rfl : k = L := by omega
      have e : i = M := by rw [HI.out, HM.out]
      subst e
      have hRu := hR.up hu
      have hh := hown
      rcases hh.2 with ⟨_, h0⟩ | ⟨H', hcap, cur, rfl, hB, h5, _⟩
      · omega
      · have hF : RowsAt wr H' (2 * k) n gs caps TP := by
          refine ⟨(Array.getElem?_eq_some_iff.1 h5).1, fun j hj => ?_, fun j hj => hRu.row j (by rw [HI.out]; exact hj)⟩
          rw [World.ownsRow.cellAt hown j (by omega)]
          simp [hdL, HI.out, hj]
        go_wp2_with fail
        go_ret2
        first | exact ⟨H', hcap, gs, caps, rfl, hF, huW.trans (hu03.trans hu)⟩ | exact ⟨H', ⟨hcap, rfl⟩, ⟨gs, caps, hF⟩, huW.trans (hu03.trans hu)⟩

/-- what is left of the coefficients behind i digits -/
def restI (n : Nat) (X : List Int) (B : Int) (i : Nat) : List Int := (List.range n).map (restC X B i)

theorem restI_length (n : Nat) (X : List Int) (B : Int) (i : Nat) : (restI n X B i).length = n := by simp [restI]

theorem restI_zero (n : Nat) (X : List Int) (B : Int) (h : X.length = n) : X = restI n X B 0 := by
  apply List.ext_getElem
  · rw [restI_length, h]
  · intro i h1 h2
    simp [restI, restC, List.getD_eq_getElem?_getD, List.getElem?_eq_getElem h1]

theorem rest_dig (n : Nat) (X : List Int) (B : Int) (i : Nat) : ((List.range n).map fun j => (restI n X B i).getD j 0 % B) = digI n X B i := by
  refine List.map_congr_left fun j hj => ?_
  rw [show (restI n X B i).getD j 0 = restC X B i j from getD_range (List.mem_range.1 hj)]
  rfl

theorem restI_next (n : Nat) (X : List Int) (B : Int) (hB : 0 ≤ B) (i : Nat) : ((List.range n).map fun j => (restI n X B i).getD j 0 / B) = restI n X B (i + 1) := by
  refine List.map_congr_left fun j hj => ?_
  rw [show (restI n X B i).getD j 0 = restC X B i j from getD_range (List.mem_range.1 hj)]
  unfold restC
  rw [Int.ediv_ediv_of_nonneg (Int.pow_nonneg hB), Int.pow_succ]

set_option maxHeartbeats 2000000 in
theorem split_calls (n : Nat) (xs : List Int) (ga ca : Nat) (B : Int) (w : World) (hn : n ≤ 16) (hla : xs.length = n) (hB : 2 ≤ B) (hB2 : B ≤ 256) (ha : ∀ i, 0 ≤ xs.getD i 0 ∧ xs.getD i 0 ≤ 4294967296) (ia : IsI w ga xs) :
    Calls Try.prog 128 #[.slice (some ⟨ga, 0, none⟩) n ca, .int .i64 B] w fun e w' => ∃ va ve, e = .returned (.tuple #[va, ve]) ∧ OwnI w' w.heap.size va ((List.range n).map fun j => xs.getD j 0 % B) ∧ OwnI w' w.heap.size ve ((List.range n).map fun j => xs.getD j 0 / B) ∧ Up w w' := by
  have HA : Hid _ := ha
  have HLA : Hid _ := hla
  have hd0 : (B == 0) = false := beq_eq_false_iff_ne.2 (by omega)
  have hd1 : ¬ B = 0 := by omega
  clear ha hla
  go_enter Try.func128, Try.ntmps128
  go_wp2_with fail
  go_loopw [6, 7, 14] (fun va ve j wr => ∃ k : Nat, k ≤ n ∧ j = .int .i64 (k : Int) ∧ OwnI wr w.heap.size va ((List.range k).map fun j => xs.getD j 0 % B) ∧ OwnI wr w.heap.size ve ((List.range k).map fun j => xs.getD j 0 / B) ∧ Apart va ve ∧ Up w wr) (fun _ _ j _ => n - (intOf j).toNat)
  case atStart => exact ⟨0, Nat.zero_le _, rfl, World.ownsRow_nil _ _ _ _, World.ownsRow_nil _ _ _ _, Or.inl rfl, Up.refl _⟩
  case round =>
    obtain ⟨k, hk, rfl, hoa, hoe, hap, hu⟩ := hrel
    by_cases hlt : k < n
    · have hca := (ia.up hu).2 k (by rw [HLA.out]; omega)
      have hba := HA.out k
      have HRA : Hid ((List.range (k + 1)).map (fun j => xs.getD j 0 % B) = (List.range k).map (fun j => xs.getD j 0 % B) ++ [xs.getD k 0 % B]) := map_range_succ _ _
      have HRE : Hid ((List.range (k + 1)).map (fun j => xs.getD j 0 / B) = (List.range k).map (fun j => xs.getD j 0 / B) ++ [xs.getD k 0 / B]) := map_range_succ _ _
      generalize xs.getD k 0 = x at hca hba HRA HRE
      have e1 : x.tmod B = x % B := Int.tmod_eq_emod_of_nonneg hba.1
      have e2 : x.tdiv B = x / B := Int.tdiv_eq_ediv_of_nonneg hba.1
      have h3 : x / B ≤ x := Int.ediv_le_self _ hba.1
      have h4 : 0 ≤ x / B := Int.ediv_nonneg hba.1 (by omega)
      have e3 : IntKind.i64.wrap (x.tdiv B) = x / B := by rw [e2]; exact IntWalk.i64_in _ (by omega)
      have e4 : IntKind.i64.wrap (x / B) = x / B := IntWalk.i64_in _ (by omega)
      have hsz : w.heap.size ≤ wr.heap.size := hu.size
      go_wp2_with (at_builtin; refine append_int _ _ rfl (.tmp 18) (.tmp 22) rfl _ _ _ rfl hoa rfl (by simp; omega) hsz ?_)
      intro v4 w4 hown4 hg4 hb4 hob4
      have hoe1 := hoe.kept hg4 hap.symm.keeps
      have hap1 : Apart v4 u7 := hap.grown hoe hob4
      have hu4 : Up w w4 := Below.trans hu hb4
      have hca4 : w4.cell? ⟨ga, k, none⟩ = some (.int .i64 x) := (hu4.cell (p := ⟨ga, k, none⟩) ia.1).trans ((hu.cell (p := ⟨ga, k, none⟩) ia.1).symm.trans hca)
      clear hoa hoe hap hg4 hb4 hob4 hca
      have hsz4 : w.heap.size ≤ w4.heap.size := hu4.size
      go_wp2_with (at_builtin; refine append_int _ _ rfl (.tmp 24) (.tmp 28) rfl _ _ _ rfl hoe1 rfl (by simp; omega) hsz4 ?_)
      intro v5 w5 hown5 hg5 hb5 hob5
      have hoa2 := hown4.kept hg5 hap1.keeps
      have hap2 : Apart v4 v5 := (hap1.symm.grown hown4 hob5).symm
      have hu5 : Up w w5 := Below.trans hu4 hb5
      clear hown4 hoe1 hap1 hg5 hb5 hob5
      go_wp2_with fail
      go_roundw
      case rel => exact ⟨k + 1, by omega, by go_num, by rw [HRA.out]; exact hoa2, by rw [HRE.out]; exact hown5, hap2, hu5⟩
      case measure => simp [intOf]; omega
    · obtain rfl : k = n := by omega
      go_wp2_with fail
      go_ret2
      exact ⟨_, _, rfl, hoa, hoe, hu⟩

set_option maxHeartbeats 1000000 in
theorem addProduct_calls (n : Nat) (ss xs ys : List Int) (gs ga gb cs ca cb : Nat) (q : Int) (w : World) (hn : n ≤ 16) (hn1 : 1 ≤ n) (hls : ss.length = n) (hla : xs.length = n) (hlb : ys.length = n) (hq : 0 < q) (hq2 : q ≤ 1073741823) (hs : Bnd ss 4294967296) (ha : Bnd xs 1073741824) (hb : Bnd ys 1073741824) (is : IsI w gs ss) (ia : IsI w ga xs) (ib : IsI w gb ys) :
    Calls Try.prog 129 #[.slice (some ⟨gs, 0, none⟩) n cs, .slice (some ⟨ga, 0, none⟩) n ca, .slice (some ⟨gb, 0, none⟩) n cb, .int .i64 q] w fun e w' => ∃ g c, e = .returned (.slice (some ⟨g, 0, none⟩) n c) ∧ IsI w' g (plusI n ss (timesI n ys xs q) q) ∧ Up w w' := by
  have HS : Hid _ := hs
  have HA : Hid _ := ha
  have HB : Hid _ := hb
  have HLS : Hid _ := hls
  have HLA : Hid _ := hla
  have HLB : Hid _ := hlb
  have HC : Hid _ := timesI_comm n (by omega) xs ys q
  clear hs ha hb hls hla hlb
  go_enter Try.func129, Try.ntmps129
  go_wp2_with fail
  refine (ringMul_calls n xs ys ga gb ca cb q _ hn HLA.out HLB.out hq hq2 HA.out HB.out ia ib).mono ?_
  rintro e w1 ⟨g1, rfl, ho1, hu1⟩
  go_wp2_with fail
  refine (ringAdd_calls n ss (timesI n xs ys q) gs g1 cs n q _ hn HLS.out (timesI_length _ _ _ _) hq hq2 HS.out (timesI_bnd _ _ _ _ _ hq (by omega)) (is.up hu1) ho1.isI).mono ?_
  rintro e w2 ⟨v2, rfl, ho2, hu2⟩
  obtain ⟨g2, c2, rfl, _, i2⟩ := ho2.is (ne_nil_of_length (plusI_length _ _ _ _) (by omega))
  rw [plusI_length]
  rw [HC.out] at i2
  go_wp2_with fail
  go_ret
  exact ⟨g2, c2, rfl, i2, hu1.trans hu2⟩

theorem cubI_bnd (n : Nat) (xs : List Int) (q m : Int) (hq : 0 < q) (hm : q ≤ m) : Bnd (cubI n xs q) m := Bnd_mod hq hm fun i => by
  unfold cubC
  split
  · exact ⟨_, rfl⟩
  · exact ⟨_, rfl⟩

theorem cub_range (n : Nat) (xs : List Int) (q : Int) (hq : 0 < q) (j : Nat) : 0 ≤ (cubI n xs q).getD j 0 ∧ (cubI n xs q).getD j 0 < q := by
  rcases Nat.lt_or_ge j n with h | h
  · rw [show (cubI n xs q).getD j 0 = cubC n xs q j from getD_range h]
    unfold cubC
    split
    · exact mod_bounds hq _
    · exact mod_bounds hq _
  · rw [getD_out _ _ (by rw [cubI_length]; exact h)]
    omega

theorem rest_bnd (n : Nat) (xs : List Int) (q B : Int) (hq : 0 < q) (hq2 : q ≤ 1073741823) (hB : 2 ≤ B) (i j : Nat) : 0 ≤ (restI n (cubI n xs q) B i).getD j 0 ∧ (restI n (cubI n xs q) B i).getD j 0 ≤ 4294967296 := by
  rcases Nat.lt_or_ge j n with h | h
  · rw [show (restI n (cubI n xs q) B i).getD j 0 = restC (cubI n xs q) B i j from getD_range h]
    have h1 := cub_range n xs q hq j
    have h2 : (0 : Int) ≤ B ^ i := Int.pow_nonneg (by omega)
    unfold restC
    exact ⟨Int.ediv_nonneg h1.1 h2, Int.le_trans (Int.ediv_le_self _ h1.1) (by omega)⟩
  · rw [getD_out _ _ (by rw [restI_length]; exact h)]
    omega

theorem digI_bnd2 (n : Nat) (X : List Int) (B : Int) (i : Nat) (hB : 2 ≤ B) (hB2 : B ≤ 256) : Bnd (digI n X B i) 1073741824 := Bnd_mod (q := B) (by omega) (by omega) fun j => ⟨_, rfl⟩

/-- what a turning key adds to the bound -/
def tnN (n L : Nat) (b : Int) : Nat := L * n * ((2 : Int) ^ b.toNat - 1).toNat * 2

theorem tnN_le (n L : Nat) (b : Int) (hn : n ≤ 16) (hL : L ≤ 30) (hb : 1 ≤ b) (hb2 : b ≤ 8) : tnN n L b ≤ 244800 := by
  obtain ⟨_, hB1, hB2⟩ := pow_b b hb hb2
  have h1 : L * n ≤ 480 := Nat.mul_le_mul hL hn
  have h2 : ((2 : Int) ^ b.toNat - 1).toNat ≤ 255 := by omega
  have h3 : L * n * ((2 : Int) ^ b.toNat - 1).toNat ≤ 480 * 255 := Nat.mul_le_mul h1 h2
  unfold tnN
  omega

set_option maxHeartbeats 2000000 in
theorem turnNoise_calls (n L : Nat) (t q b : Int) (w : World) (hn : n ≤ 16) (hq : 2 ≤ q) (hq2 : q ≤ 1073741823) (hb : 1 ≤ b) (hb2 : b ≤ 8) (hL : DigOf q b L) :
    Calls Try.prog 127 #[.agg #[.int .i64 n, .int .i64 t, .int .i64 q, .int .i64 b]] w fun e w' => e = .returned (.int .i64 (tnN n L b : Nat)) ∧ Up w w' := by
  have hL30 := hL.le hb hq2
  obtain ⟨_, hB1, hB2⟩ := pow_b b hb hb2
  have HB : Hid _ := Base_calls n t q b
  have HDg : Hid (∀ W, Calls Try.prog 112 #[.agg #[.int .i64 n, .int .i64 t, .int .i64 q, .int .i64 b]] W fun e w' => e = .returned (.int .i64 (L : Int)) ∧ Up W w') := fun W => pDigits_calls n t q b L W hq hq2 hb hb2 hL
  have hle := tnN_le n L b hn hL30 hb hb2
  have HE : Hid ((tnN n L b : Int) = (L : Int) * (n : Int) * ((2 : Int) ^ b.toNat - 1) * 2) := by
    show ((L * n * ((2 : Int) ^ b.toNat - 1).toNat * 2 : Nat) : Int) = _
    rw [Int.natCast_mul, Int.natCast_mul, Int.natCast_mul, show ((((2 : Int) ^ b.toNat - 1).toNat : Nat) : Int) = (2 : Int) ^ b.toNat - 1 by omega]
    rfl
  generalize tnN n L b = TN at HE hle
  generalize (2 : Int) ^ b.toNat = Bs at HB HE hB1 hB2
  have hLn : (L : Int) * (n : Int) ≤ 30 * 16 := Int.mul_le_mul (by omega) (by omega) (by omega) (by omega)
  have hLn0 : 0 ≤ (L : Int) * (n : Int) := Int.mul_nonneg (by omega) (by omega)
  have e1 : IntKind.i64.wrap ((L : Int) * (n : Int)) = (L : Int) * (n : Int) := IntWalk.i64_in _ (by omega)
  obtain ⟨M, hM⟩ : ∃ M, M = (L : Int) * (n : Int) := ⟨_, rfl⟩
  rw [← hM] at hLn hLn0 HE
  replace e1 : IntKind.i64.wrap ((L : Int) * (n : Int)) = M := by rw [e1, hM]
  have hMB : M * (Bs - 1) ≤ 480 * 255 := Int.mul_le_mul (by omega) (by omega) (by omega) (by omega)
  have hMB0 : 0 ≤ M * (Bs - 1) := Int.mul_nonneg (by omega) (by omega)
  obtain ⟨K, hK⟩ : ∃ K, K = M * (Bs - 1) := ⟨_, rfl⟩
  rw [← hK] at hMB hMB0 HE
  have e2 : IntKind.i64.wrap (M * (Bs - 1)) = K := by rw [← hK]; exact IntWalk.i64_in _ (by omega)
  have e4 : IntKind.i64.wrap (K * 2) = (TN : Int) := by rw [HE.out]; exact IntWalk.i64_in _ (by omega)
  have E3 : Hid (IntKind.i64.wrap (Bs - 1) = Bs - 1) := IntWalk.i64_in _ (by omega)
  have E1 : Hid _ := e1
  have E2 : Hid _ := e2
  have E4 : Hid _ := e4
  clear e1 e2 e4 hM hK
  clear hL HE
  obtain ⟨W, hW⟩ : ∃ W, W = w.alloc (.cells #[.int .i64 n, .int .i64 t, .int .i64 q, .int .i64 b] 26) := ⟨_, rfl⟩
  have huW : Up w W := by rw [hW]; exact (Up.refl _).alloc _
  have hS0 : W.cell? ⟨w.heap.size, 0, none⟩ = some (.int .i64 (n : Int)) := by rw [hW]; simp [go_sem]
  have hS1 : W.cell? ⟨w.heap.size, 1, none⟩ = some (.int .i64 t) := by rw [hW]; simp [go_sem]
  have hS2 : W.cell? ⟨w.heap.size, 2, none⟩ = some (.int .i64 q) := by rw [hW]; simp [go_sem]
  have hS3 : W.cell? ⟨w.heap.size, 3, none⟩ = some (.int .i64 b) := by rw [hW]; simp [go_sem]
  go_enter Try.func127, Try.ntmps127
  go_wp2_with fail
  rw [← hW]
  clear hW
  go_region_held3 (fun w' => w'.cell? ⟨w.heap.size, 0, none⟩ = some (.int .i64 (n : Int)) ∧ w'.cell? ⟨w.heap.size, 1, none⟩ = some (.int .i64 t) ∧ w'.cell? ⟨w.heap.size, 2, none⟩ = some (.int .i64 q) ∧ w'.cell? ⟨w.heap.size, 3, none⟩ = some (.int .i64 b))
    (first | go_keep | exact keepC4 hu2 (by assumption) | exact keepC4 hu3 (by assumption))
    ((first | (go_at_call 112; refine Calls.mono (HDg.out _) ?_; rintro r w2 ⟨rfl, hu2⟩) | (go_at_call 115; refine Calls.mono (HB.out _ hb hb2) ?_; rintro r w3 ⟨rfl, hu3⟩)))
  first | rw [E3.out, E1.out, E2.out, E4.out] | rw [E1.out, E2.out, E4.out]
  go_wp2_with fail
  go_ret
  exact ⟨rfl, huW.trans (Up.trans (Up.trans (Up.drew (Up.refl _)) hu2) hu3)⟩

end Go.Proofs.Ytjiekfplgmfgiaa
