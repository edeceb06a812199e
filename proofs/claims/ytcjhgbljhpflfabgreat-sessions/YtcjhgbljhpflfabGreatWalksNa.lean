/-
  Walks: the reference's layers: Size, Layer, entry, Less, diagonal.
  Walks: the reference's diagonal and Applied.
  Walks: the reference's Applied.
-/
import Derived.Test.YtcjhgbljhpflfabGreatWalksRk
namespace Go.Proofs.YtcjhgbljhpflfabGreat
open Go.RowKit
set_option linter.unusedVariables false
set_option maxRecDepth 100000

/-- how many bytes a layer has -/
def sizN (n : Nat) : Nat := 3 + 2 * (n / 2 * (n / 2)) + 2 * n

set_option maxHeartbeats 1000000 in
theorem Size_calls (n : Nat) (t q b : Int) (w : World) (hn : n = 4 ∨ n = 8 ∨ n = 16) :
    Calls Tryz.prog 96 #[.agg #[.int .i64 n, .int .i64 t, .int .i64 q, .int .i64 b]] w fun e w' => e = .returned (.int .i64 (sizN n)) ∧ Up w w' := by
  rcases hn with rfl | rfl | rfl
  all_goals
    go_enter Tryz.func96, Tryz.ntmps96
    go_wp2
    go_ret
    exact ⟨rfl, (Up.refl _).alloc _⟩

/-- is the text a layer? -/
def layB (l : List UInt8) (n : Nat) (t : Int) : Bool := decide (l.length = sizN n) && decide (byteL l 0 = 76) && decide (byteL l 1 ≤ 1) && decide (byteL l 2 ≤ 7) && okL (l.drop 3) (n / 2 * (n / 2) + n) 2 t

theorem layB_iff (l : List UInt8) (n : Nat) (t : Int) : layB l n t = true ↔ l.length = sizN n ∧ byteL l 0 = 76 ∧ byteL l 1 ≤ 1 ∧ byteL l 2 ≤ 7 ∧ okL (l.drop 3) (n / 2 * (n / 2) + n) 2 t = true := by
  unfold layB
  simp [and_assoc]

theorem ext_from (s : ByteArray) (k : Nat) : (s.extract k s.size).data.toList = s.data.toList.drop k := by
  rw [ext_list s k s.size (Nat.le_refl _)]
  have : s.data.toList.take s.size = s.data.toList := List.take_of_length_le (by simp)
  rw [this]

set_option maxHeartbeats 4000000 in
theorem Layer_calls (n : Nat) (t q b : Int) (s : ByteArray) (w : World) (hs : s.size ≤ maxLen) (hn : n = 4 ∨ n = 8 ∨ n = 16) :
    Calls Tryz.prog 41 #[.agg #[.int .i64 n, .int .i64 t, .int .i64 q, .int .i64 b], .string s] w fun e w' => e = .returned (.bool (layB s.data.toList n t)) ∧ Up w w' := by
  have hs2 : (s.size : Int) ≤ 9223372036854775807 := by unfold maxLen at hs; omega
  have HN : Hid _ := hn
  have hb1 := byteL_lt s.data.toList 1
  have hb2 := byteL_lt s.data.toList 2
  have HA : Hid (layB s.data.toList n t = (decide (s.data.toList.length = sizN n) && decide (byteL s.data.toList 0 = 76) && decide (byteL s.data.toList 1 ≤ 1) && decide (byteL s.data.toList 2 ≤ 7) && okL (s.data.toList.drop 3) (n / 2 * (n / 2) + n) 2 t)) := rfl
  generalize hans : layB s.data.toList n t = ans at HA
  clear hans
  have hz : sizN n ≤ 200 ∧ 3 ≤ sizN n := by rcases hn with rfl | rfl | rfl <;> decide
  have hdd : n / 2 * (n / 2) ≤ 64 := by rcases hn with rfl | rfl | rfl <;> decide
  have hdI : ((n : Int) / 2) * ((n : Int) / 2) = ((n / 2 * (n / 2) : Nat) : Int) := by rw [Int.natCast_mul]; rfl
  generalize hzz : sizN n = Z at HA hz
  have HZ : Hid _ := hzz
  clear hzz
  go_enter Tryz.func41, Tryz.ntmps41
  go_wp2_with fail
  refine (Size_calls n t q b _ HN.out).mono ?_
  rintro e w1 ⟨rfl, hu1⟩
  rw [HZ.out]
  obtain ⟨hc, hf⟩ := bcell hu1
  have hn16 : n ≤ 16 := by have := HN.out; omega
  have hn4 : 4 ≤ n := by have := HN.out; omega
  by_cases hl : s.size = Z
  · have hne : ((s.size : Int) != (Z : Int)) = false := by rw [hl]; simp
    have h0 : 0 < s.size := by omega
    have h3 : (3 : Int) ≤ (s.size : Int) := by omega
    have HLen : Hid (s.data.toList.length = Z) := show _ = _ by simpa using hl
    clear hl
    by_cases h76 : byteL s.data.toList 0 = 76
    · have H76 : Hid _ := h76
      rw [byteL_in s 0 h0] at h76
      have hne2 : (((s[0]'h0).toNat : Int) != 76) = false := by rw [h76]; rfl
      clear h76
      go_wp2_with fail
      refine (Byte_calls s 1 _ hs (by omega)).mono ?_
      rintro e w' ⟨rfl, rfl⟩
      rw [show (1 : Int).toNat = 1 from rfl]
      by_cases h1 : byteL s.data.toList 1 ≤ 1
      · have h1' : ¬ (1 : Int) < (byteL s.data.toList 1 : Int) := by omega
        have HB1 : Hid _ := h1
        clear h1
        go_wp2_with fail
        refine (Byte_calls s 2 _ hs (by omega)).mono ?_
        rintro e w' ⟨rfl, rfl⟩
        rw [show (2 : Int).toNat = 2 from rfl]
        by_cases h2 : byteL s.data.toList 2 ≤ 7
        · have h2' : ¬ (7 : Int) < (byteL s.data.toList 2 : Int) := by omega
          have HAns : Hid (ans = okL (s.extract 3 s.size).data.toList (n / 2 * (n / 2) + n) 2 t) := show _ = _ by
            rw [HA.out, ext_from, HLen.out, H76.out]; simp [HB1.out, h2]
          clear h2
          have HLi : Hid (∀ W, Calls Tryz.prog 98 #[.string (s.extract 3 s.size), .int .i64 ((n / 2 * (n / 2) + n : Nat) : Int), .int .i64 2, .int .i64 t] W fun e w' => ∃ a x y, e = .returned (.tuple #[.slice a x y, .bool ans]) ∧ Up W w') := fun W => by
            rw [HAns.out]
            exact List_any (s.extract 3 s.size) (n / 2 * (n / 2) + n) 2 t W (by simp; omega) (by omega) (by omega)
          have e1 : IntKind.i64.wrap (((n : Int) / 2) * ((n : Int) / 2)) = ((n / 2 * (n / 2) : Nat) : Int) := by rw [hdI]; exact IntWalk.i64_in _ (by omega)
          have e2 : IntKind.i64.wrap (((n / 2 * (n / 2) : Nat) : Int) + (n : Int)) = ((n / 2 * (n / 2) + n : Nat) : Int) := by rw [IntWalk.i64_in _ (by omega)]; omega
          generalize n / 2 * (n / 2) + n = M at e2 HLi
          generalize n / 2 * (n / 2) = M0 at e1 e2
          have hP0 : w'.cell? ⟨w.heap.size, 0, none⟩ = some (.int .i64 n) := by rw [hc _ _ (by simp)]; simp
          have hP1 : w'.cell? ⟨w.heap.size, 1, none⟩ = some (.int .i64 t) := by rw [hc _ _ (by simp)]; simp
          clear hc hf hdI
          go_wp2_with fail
          go_region_held3 (fun w' => w'.cell? ⟨w.heap.size, 0, none⟩ = some (.int .i64 (n : Int)) ∧ w'.cell? ⟨w.heap.size, 1, none⟩ = some (.int .i64 t))
            (first | go_keep | exact ⟨keepU hu3 (And.left (by assumption)), keepU hu3 (And.right (by assumption))⟩)
            ((first | (go_at_call 98; refine Calls.mono (HLi.out _) ?_; rintro e w3 ⟨a, x, y, rfl, hu3⟩)))
          go_wp2_with fail
          go_ret
          exact ⟨rfl, (((Up.refl _).alloc _).trans hu1).trans (Up.trans (Up.drew (Up.refl _)) hu3)⟩
        · have HAns : Hid (ans = false) := show _ = _ by rw [HA.out]; simp [h2]
          have h2' : (7 : Int) < (byteL s.data.toList 2 : Int) := by omega
          clear h2
          go_wp2_with fail
          go_ret
          exact ⟨ret_bool HAns.out.symm, ((Up.refl _).alloc _).trans hu1⟩
      · have HAns : Hid (ans = false) := show _ = _ by rw [HA.out]; simp [h1]
        have h1' : (1 : Int) < (byteL s.data.toList 1 : Int) := by omega
        clear h1
        go_wp2_with fail
        go_ret
        exact ⟨ret_bool HAns.out.symm, ((Up.refl _).alloc _).trans hu1⟩
    · have HAns : Hid (ans = false) := show _ = _ by rw [HA.out]; simp [h76]
      rw [byteL_in s 0 h0] at h76
      have hne2 : (((s[0]'h0).toNat : Int) != 76) = true := by rw [bne_iff_ne]; omega
      clear h76
      go_wp2_with fail
      go_ret
      exact ⟨ret_bool HAns.out.symm, ((Up.refl _).alloc _).trans hu1⟩
  · have HAns : Hid (ans = false) := show _ = _ by rw [HA.out]; simp [hl]
    have hne : ((s.size : Int) != (Z : Int)) = true := by rw [bne_iff_ne]; omega
    clear hl
    go_wp2_with fail
    go_ret
    exact ⟨ret_bool HAns.out.symm, ((Up.refl _).alloc _).trans hu1⟩

/-- where an entry of the matrix lies -/
def entN (n r c : Nat) : Nat := 3 + 2 * (r * (n / 2) + c)

set_option maxHeartbeats 1000000 in
theorem entry_calls (n r c : Nat) (t q b : Int) (s : ByteArray) (w : World) (hs : s.size ≤ maxLen) (hn : n ≤ 16) (hr : r ≤ 16) (hc : c ≤ 16) :
    Calls Tryz.prog 106 #[.agg #[.int .i64 n, .int .i64 t, .int .i64 q, .int .i64 b], .string s, .int .i64 r, .int .i64 c] w fun e w' => e = .returned (.int .i64 (numL s.data.toList (entN n r c) 2)) ∧ Up w w' := by
  have h1 : r * (n / 2) ≤ 16 * 8 := Nat.mul_le_mul hr (by omega)
  have e1 : (r : Int) * ((n : Int) / 2) = ((r * (n / 2) : Nat) : Int) := by rw [Int.natCast_mul]; rfl
  have b1 : 0 ≤ (r : Int) * ((n : Int) / 2) := by rw [e1]; omega
  have b2 : (r : Int) * ((n : Int) / 2) ≤ 128 := by rw [e1]; omega
  have HNum : Hid (∀ W, Calls Tryz.prog 99 #[.string s, .int .i64 (3 + 2 * ((r : Int) * ((n : Int) / 2) + (c : Int))), .int .i64 2] W fun e w' => e = .returned (.int .i64 (numL s.data.toList (entN n r c) 2)) ∧ w' = W) := fun W => by
    have := Number_calls s (3 + 2 * ((r : Int) * ((n : Int) / 2) + (c : Int))) 2 W hs (by omega) (by omega) (by omega)
    rw [show (3 + 2 * ((r : Int) * ((n : Int) / 2) + (c : Int))).toNat = entN n r c by unfold entN; rw [e1]; omega] at this
    exact this
  clear e1
  go_enter Tryz.func106, Tryz.ntmps106
  go_wp2_with fail
  refine Calls.mono (HNum.out _) ?_
  rintro e w1 ⟨rfl, rfl⟩
  go_wp2_with fail
  go_ret
  exact ⟨rfl, (Up.refl _).alloc _⟩

/-- a less b, by slot -/
def lessC (xs ys : List Int) (t : Int) (i : Nat) : Int := (xs.getD i 0 - ys.getD i 0) % t
def lessI (n : Nat) (xs ys : List Int) (t : Int) : List Int := (List.range n).map (lessC xs ys t)

set_option maxHeartbeats 2000000 in
theorem Less_calls (n : Nat) (xs ys : List Int) (ga gb ca cb : Nat) (q : Int) (w : World) (hn : n ≤ 16) (hla : xs.length = n) (hlb : ys.length = n) (hq : 0 < q) (hq2 : q ≤ 1073741823) (ha : Bnd xs 4294967296) (hb : Bnd ys 4294967296) (ia : IsI w ga xs) (ib : IsI w gb ys) :
    Calls Tryz.prog 51 #[.slice (some ⟨ga, 0, none⟩) n ca, .slice (some ⟨gb, 0, none⟩) n cb, .int .i64 q] w fun e w' => ∃ v, e = .returned v ∧ OwnI w' w.heap.size v (lessI n xs ys q) ∧ Up w w' := by
  have HA : Hid _ := ha
  have HB : Hid _ := hb
  have HLA : Hid _ := hla
  have HLB : Hid _ := hlb
  have hga := ia.1
  have hgb := ib.1
  clear ha hb hla hlb
  go_enter Tryz.func51, Tryz.ntmps51
  go_wp2_with fail
  go_loopw [7, 8] (fun v j wr => ∃ k : Nat, k ≤ n ∧ j = .int .i64 (k : Int) ∧ OwnI wr w.heap.size v ((List.range k).map (lessC xs ys q)) ∧ Up w wr) (fun _ j _ => n - (intOf j).toNat)
  case atStart => exact ⟨0, Nat.zero_le _, rfl, World.ownsRow_nil _ _ _ _, Up.refl _⟩
  case round =>
    obtain ⟨k, hk, rfl, hown, hu⟩ := hrel
    by_cases hlt : k < n
    · have hca := (ia.up hu).2 k (by rw [HLA.out]; omega)
      have hcb := (ib.up hu).2 k (by rw [HLB.out]; omega)
      have hba := HA.out k
      have hbb := HB.out k
      have HR : Hid ((List.range (k + 1)).map (lessC xs ys q) = (List.range k).map (lessC xs ys q) ++ [(xs.getD k 0 - ys.getD k 0) % q]) := map_range_succ _ _
      generalize xs.getD k 0 = x at hca hba HR
      generalize ys.getD k 0 = y at hcb hbb HR
      have e1 : IntKind.i64.wrap (x - y) = x - y := IntWalk.i64_in _ (by omega)
      have hi0 : (0 : Int) ≤ (k : Int) := by omega
      have hi1 : (k : Int) < (n : Int) := by omega
      have hcn : (wr.alloc (.cells #[.int .i64 ((x - y) % q)] 3)).drew.cell? ⟨wr.heap.size, 0, none⟩ = some (.int .i64 ((x - y) % q)) := by simp
      have hbs := Nat.le_trans hu.size (Up.drew (Up.alloc (Up.refl wr) (.cells #[.int .i64 ((x - y) % q)] 3))).size
      go_wp2_with fail
      go_region_held3 (fun w' => w'.cell? ⟨ga, k, none⟩ = some (.int .i64 x) ∧ w'.cell? ⟨gb, k, none⟩ = some (.int .i64 y))
        (first | go_keep | exact keepS hb4 hga hgb (by assumption))
        ((first | (go_at_call 112; refine (Mod_calls _ _ _ (by omega) (by omega)).mono ?_; rintro e w' ⟨rfl, rfl⟩) | (refine step_append_int (wr.alloc (.cells #[.int .i64 ((x - y) % q)] 3)).drew ((x - y) % q) wr.heap.size rfl (.tmp 15) (.tmp 27) rfl _ u7 ((List.range k).map (lessC xs ys q)) rfl (hown.up (Up.drew (Up.alloc (Up.refl _) _))) rfl hcn (by simp; omega) hbs ?_; intro v4 w4 hown4 hg4 hb4)))
      clear hcn hbs hca hcb
      go_wp2_with fail
      go_roundw
      case rel => exact ⟨k + 1, by omega, by go_num, by rw [HR.out]; exact hown4, Below.trans (Up.drew (Below.alloc hu hu.size _)) hb4⟩
      case measure => simp [intOf]; omega
    · obtain rfl : k = n := by omega
      go_wp2_with fail
      go_ret
      exact ⟨_, rfl, hown, hu⟩

end Go.Proofs.YtcjhgbljhpflfabGreat

namespace Go.Proofs.YtcjhgbljhpflfabGreat
open Go.RowKit
set_option linter.unusedVariables false
set_option maxRecDepth 100000

def dgC (n : Nat) (l : List UInt8) (i j : Nat) : Int := (numL l (entN n j ((j + i) % (n / 2))) 2 : Int)
/-- the values for the term i, one row -/
def dgI (n : Nat) (l : List UInt8) (i k : Nat) : List Int := (List.range k).map (dgC n l i)
def diagL (n : Nat) (l : List UInt8) (i : Nat) : List UInt8 := textsL 2 (dgI n l i (n / 2)) ++ textsL 2 (dgI n l i (n / 2))

theorem dgI_length (n : Nat) (l : List UInt8) (i k : Nat) : (dgI n l i k).length = k := by simp [dgI]

set_option maxHeartbeats 4000000 in
theorem diagonal_calls (n i : Nat) (t q b : Int) (s : ByteArray) (w : World) (hs : s.size ≤ maxLen) (hn : n ≤ 16) (hn4 : 4 ≤ n) (hi : i ≤ 16) :
    Calls Tryz.prog 46 #[.agg #[.int .i64 n, .int .i64 t, .int .i64 q, .int .i64 b], .string s, .int .i64 i] w fun e w' => e = .returned (.string ⟨(diagL n s.data.toList i).toArray⟩) ∧ Up w w' := by
  have HDf : Hid (diagL n s.data.toList i = textsL 2 (dgI n s.data.toList i (n / 2)) ++ textsL 2 (dgI n s.data.toList i (n / 2))) := rfl
  generalize hdl : diagL n s.data.toList i = ans at HDf
  clear hdl
  have hd8 : n / 2 ≤ 8 := by omega
  have hd2 : 2 ≤ n / 2 := by omega
  have HDI : Hid ((n : Int) / 2 = ((n / 2 : Nat) : Int)) := rfl
  have HE : Hid (∀ j k W, j ≤ 16 → k ≤ 16 → Calls Tryz.prog 106 #[.agg #[.int .i64 n, .int .i64 t, .int .i64 q, .int .i64 b], .string s, .int .i64 (j : Nat), .int .i64 (k : Nat)] W fun e w' => e = .returned (.int .i64 (numL s.data.toList (entN n j k) 2)) ∧ Up W w') := fun j k W h1 h2 => entry_calls n j k t q b s W hs hn h1 h2
  have HS1 : Hid (∀ k, dgI n s.data.toList i (k + 1) = dgI n s.data.toList i k ++ [(numL s.data.toList (entN n k ((k + i) % (n / 2))) 2 : Int)]) := fun k => map_range_succ _ _
  go_enter Tryz.func46, Tryz.ntmps46
  go_wp2_with fail
  rw [HDI.out]
  generalize n / 2 = d at hd8 hd2 HDf HDI HS1 ⊢
  go_loopw [8, 9] (fun ss sj wr => ∃ k : Nat, k ≤ d ∧ sj = .int .i64 (k : Int) ∧ ss = .string ⟨(textsL 2 (dgI n s.data.toList i k)).toArray⟩ ∧ Up (w.alloc (.cells #[.int .i64 n, .int .i64 t, .int .i64 q, .int .i64 b] 23)) wr) (fun _ sj _ => d - (intOf sj).toNat)
  case atStart => exact ⟨0, Nat.zero_le _, rfl, rfl, Up.refl _⟩
  case round =>
    obtain ⟨k, hk, rfl, rfl, hu⟩ := hrel
    have hlen : (textsL 2 (dgI n s.data.toList i k)).length = 2 * k := by rw [textsL_length, dgI_length]
    by_cases hkd : k < d
    · have hm1 : (k + i) % d < d := Nat.mod_lt _ (by omega)
      have HEn : Hid (∀ W, Calls Tryz.prog 106 #[.agg #[.int .i64 n, .int .i64 t, .int .i64 q, .int .i64 b], .string s, .int .i64 (k : Nat), .int .i64 (((k + i) % d : Nat) : Int)] W fun e w' => e = .returned (.int .i64 (numL s.data.toList (entN n k ((k + i) % d)) 2)) ∧ Up W w') := fun W => HE.out k ((k + i) % d) W (by omega) (by omega)
      have hx := numL_le5 s.data.toList (entN n k ((k + i) % d)) 2 (by omega)
      have HSk : Hid _ := HS1.out k
      generalize numL s.data.toList (entN n k ((k + i) % d)) 2 = x at HEn hx HSk
      have hadd := add_str (textsL 2 (dgI n s.data.toList i k)) (textL x 2) (by omega) (by rw [textL_length]; omega)
      have HTx : Hid (∀ W, Calls Tryz.prog 105 #[.int .i64 (x : Int), .int .i64 2] W fun r w' => r = .returned (.string ⟨(textL x 2).toArray⟩) ∧ Up W w') := fun W => by
        have := Text_calls 2 (by omega) (x : Int) 2 W (by omega) (by omega) rfl
        rw [Int.toNat_natCast] at this
        exact this
      have HNx : Hid (textsL 2 (dgI n s.data.toList i k) ++ textL x 2 = textsL 2 (dgI n s.data.toList i (k + 1))) := show _ = _ by rw [HSk.out, textsL_snoc, Int.toNat_natCast]
      rw [HNx.out] at hadd
      generalize hT1 : textsL 2 (dgI n s.data.toList i (k + 1)) = T1 at hadd
      have HT1 : Hid _ := hT1
      clear hT1 HNx hlen HSk
      generalize textsL 2 (dgI n s.data.toList i k) = T0 at hadd ⊢
      generalize textL x 2 = X1 at hadd HTx
      have e0 : IntKind.i64.wrap ((k : Int) + (i : Int)) = (k : Int) + (i : Int) := IntWalk.i64_in _ (by omega)
      have e1 : ((k : Int) + (i : Int)).tmod (d : Int) = (((k + i) % d : Nat) : Int) := by rw [Int.tmod_eq_emod_of_nonneg (by omega), Int.natCast_emod, Int.natCast_add]
      generalize (k + i) % d = M at e1 HEn hm1
      have ed1 : ¬ (d : Int) = 0 := by omega
      have ed2 : ¬ d = 0 := by omega
      have ed0 : ((d : Int) == 0) = false := beq_eq_false_iff_ne.2 ed1
      obtain ⟨hc, hf⟩ := bcell hu
      have hP0 : wr.cell? ⟨w.heap.size, 0, none⟩ = some (.int .i64 n) := by rw [hc _ _ (by simp)]; simp
      have hP1 : wr.cell? ⟨w.heap.size, 1, none⟩ = some (.int .i64 t) := by rw [hc _ _ (by simp)]; simp
      have hP2 : wr.cell? ⟨w.heap.size, 2, none⟩ = some (.int .i64 q) := by rw [hc _ _ (by simp)]; simp
      have hP3 : wr.cell? ⟨w.heap.size, 3, none⟩ = some (.int .i64 b) := by rw [hc _ _ (by simp)]; simp
      clear hc hf
      go_wp2_with fail
      go_region_held3 (fun w' => w'.cell? ⟨w.heap.size, 0, none⟩ = some (.int .i64 (n : Int)) ∧ w'.cell? ⟨w.heap.size, 1, none⟩ = some (.int .i64 t) ∧ w'.cell? ⟨w.heap.size, 2, none⟩ = some (.int .i64 q) ∧ w'.cell? ⟨w.heap.size, 3, none⟩ = some (.int .i64 b))
        (first | go_keep | exact keep4 hu2 (by assumption) | exact keep4 hu1 (by assumption))
        ((first | (go_at_call 106; refine Calls.mono (HEn.out _) ?_; rintro e w1 ⟨rfl, hu1⟩) | (go_at_call 105; refine Calls.mono (HTx.out _) ?_; rintro e w2 ⟨rfl, hu2⟩)))
      clear hP0 hP1 hP2 hP3
      go_wp2_with fail
      go_roundw
      case rel => exact ⟨k + 1, by omega, by go_num, by rw [HT1.out], hu.trans (Up.trans (Up.trans (Up.drew (Up.refl _)) hu1) hu2)⟩
      case measure => simp [intOf]; omega
    · obtain rfl : k = d := by omega
      have hadd := add_str (textsL 2 (dgI n s.data.toList i k)) (textsL 2 (dgI n s.data.toList i k)) (by omega) (by omega)
      rw [← HDf.out] at hadd
      clear hlen
      generalize textsL 2 (dgI n s.data.toList i k) = T0 at hadd ⊢
      go_wp2_with fail
      go_ret
      exact ⟨rfl, ((Up.refl _).alloc _).trans hu⟩

end Go.Proofs.YtcjhgbljhpflfabGreat

namespace Go.Proofs.YtcjhgbljhpflfabGreat
open Go.RowKit
set_option linter.unusedVariables false
set_option maxRecDepth 100000

def apT (n : Nat) (l : List UInt8) (vs : List Int) (r j k : Nat) : Int := (numL l (entN n j k) 2 : Int) * vs.getD (r * (n / 2) + k) 0
def apB (n : Nat) (l : List UInt8) (i : Nat) : Nat := numL l (3 + 2 * (n / 2 * (n / 2)) + 2 * i) 2
def apC (n : Nat) (t : Int) (l : List UInt8) (vs : List Int) (i : Nat) : Int := ((apB n l i : Int) + sumI (apT n l vs (i / (n / 2)) (i % (n / 2))) (n / 2)) % t
/-- a layer's matrix times both rows, and its bias -/
def appI (n : Nat) (t : Int) (l : List UInt8) (vs : List Int) : List Int := (List.range n).map (apC n t l vs)

theorem appI_length (n : Nat) (t : Int) (l : List UInt8) (vs : List Int) : (appI n t l vs).length = n := by simp [appI]

theorem appI_lt (n : Nat) (t : Int) (l : List UInt8) (vs : List Int) (ht : 0 < t) : ∀ i, i < n → 0 ≤ (appI n t l vs).getD i 0 ∧ (appI n t l vs).getD i 0 < t := by
  intro i hi
  unfold appI
  rw [getD_range hi]
  exact mod_bounds ht _

theorem numL_two (l : List UInt8) (i : Nat) : numL l i 2 < 65536 := numL_lt l i 2

theorem apT_bounds (n : Nat) (l : List UInt8) (vs : List Int) (hv : ∀ i, 0 ≤ vs.getD i 0 ∧ vs.getD i 0 ≤ 65536) (r j k : Nat) : 0 ≤ apT n l vs r j k ∧ apT n l vs r j k ≤ 4294967296 := by
  unfold apT
  have h1 := numL_two l (entN n j k)
  have h2 := hv (r * (n / 2) + k)
  refine ⟨Int.mul_nonneg (by omega) h2.1, ?_⟩
  have := Int.mul_le_mul (show (numL l (entN n j k) 2 : Int) ≤ 65536 by omega) h2.2 h2.1 (by omega)
  omega

theorem sumI_bounds (f : Nat → Int) (m : Int) (hf : ∀ i, 0 ≤ f i ∧ f i ≤ m) (k : Nat) : 0 ≤ sumI f k ∧ sumI f k ≤ k * m := by
  induction k with
  | zero => simp [sumI]
  | succ k ih =>
    have h := hf k
    simp only [sumI]
    rw [show ((k + 1 : Nat) : Int) * m = k * m + m by rw [Int.natCast_add, Int.add_mul]; simp]
    omega

theorem keepP5 {a g k : Nat} {u0 u1 u2 u3 u4 : Value} {W W' : World} (hu : Up W W') (hS : W.cell? ⟨a, 0, none⟩ = some u0 ∧ W.cell? ⟨a, 1, none⟩ = some u1 ∧ W.cell? ⟨a, 2, none⟩ = some u2 ∧ W.cell? ⟨a, 3, none⟩ = some u3 ∧ W.cell? ⟨g, k, none⟩ = some u4) :
    W'.cell? ⟨a, 0, none⟩ = some u0 ∧ W'.cell? ⟨a, 1, none⟩ = some u1 ∧ W'.cell? ⟨a, 2, none⟩ = some u2 ∧ W'.cell? ⟨a, 3, none⟩ = some u3 ∧ W'.cell? ⟨g, k, none⟩ = some u4 :=
  ⟨keepU hu hS.1, keepU hu hS.2.1, keepU hu hS.2.2.1, keepU hu hS.2.2.2.1, keepU hu hS.2.2.2.2⟩

set_option maxHeartbeats 8000000 in
theorem Applied_calls (n : Nat) (t : Nat) (q b : Int) (s : ByteArray) (vs : List Int) (gv cv : Nat) (w : World) (hs : s.size ≤ maxLen) (hn : n = 4 ∨ n = 8 ∨ n = 16) (ht : 0 < t) (ht2 : t ≤ 1021) (hl : vs.length = n) (hv : ∀ i, 0 ≤ vs.getD i 0 ∧ vs.getD i 0 ≤ 65536) (iv : IsI w gv vs) :
    Calls Tryz.prog 52 #[.agg #[.int .i64 n, .int .i64 t, .int .i64 q, .int .i64 b], .string s, .slice (some ⟨gv, 0, none⟩) n cv] w fun e w' => ∃ v, e = .returned v ∧ OwnI w' w.heap.size v (appI n t s.data.toList vs) ∧ Up w w' := by
  have HDf : Hid (appI n t s.data.toList vs = (List.range n).map (apC n t s.data.toList vs)) := rfl
  generalize hdl : appI n t s.data.toList vs = ans at HDf
  clear hdl
  have HV : Hid _ := hv
  have HL : Hid _ := hl
  have HDI : Hid ((n : Int) / 2 = ((n / 2 : Nat) : Int)) := rfl
  have hd8 : n / 2 ≤ 8 := by omega
  have hd2 : 2 ≤ n / 2 := by omega
  have HND : Hid (n = 2 * (n / 2)) := show _ = _ by omega
  have HE : Hid (∀ j k W, j ≤ 16 → k ≤ 16 → Calls Tryz.prog 106 #[.agg #[.int .i64 n, .int .i64 t, .int .i64 q, .int .i64 b], .string s, .int .i64 (j : Nat), .int .i64 (k : Nat)] W fun e w' => e = .returned (.int .i64 (numL s.data.toList (entN n j k) 2)) ∧ Up W w') := fun j k W h1 h2 => entry_calls n j k t q b s W hs (by omega) h1 h2
  have HSt : Hid (∀ i, (List.range (i + 1)).map (apC n t s.data.toList vs) = (List.range i).map (apC n t s.data.toList vs) ++ [((apB n s.data.toList i : Int) + sumI (apT n s.data.toList vs (i / (n / 2)) (i % (n / 2))) (n / 2)) % (t : Int)]) := fun i => map_range_succ _ _
  have HSm : Hid (∀ r j k, sumI (apT n s.data.toList vs r j) (k + 1) = sumI (apT n s.data.toList vs r j) k + (numL s.data.toList (entN n j k) 2 : Int) * vs.getD (r * (n / 2) + k) 0) := fun r j k => rfl
  have HBd : Hid (∀ r j k, 0 ≤ sumI (apT n s.data.toList vs r j) k ∧ sumI (apT n s.data.toList vs r j) k ≤ k * 4294967296) := fun r j k => sumI_bounds _ _ (apT_bounds n s.data.toList vs HV.out r j) k
  have HNm : Hid (∀ i W, i ≤ 16 → Calls Tryz.prog 99 #[.string s, .int .i64 ((3 + 2 * (n / 2 * (n / 2)) + 2 * i : Nat) : Int), .int .i64 2] W fun e w' => e = .returned (.int .i64 (apB n s.data.toList i)) ∧ w' = W) := fun i W hi => by
    have hdd : n / 2 * (n / 2) ≤ 8 * 8 := Nat.mul_le_mul hd8 hd8
    exact Number_calls s ((3 + 2 * (n / 2 * (n / 2)) + 2 * i : Nat) : Int) 2 W hs (by omega) (by omega) (by omega)
  go_enter Tryz.func52, Tryz.ntmps52
  go_wp2_with fail
  rw [HDI.out]
  clear hn hv hl
  generalize n / 2 = d at hd8 hd2 HND HDI HSt HSm HNm ⊢
  obtain ⟨W0, hW0⟩ : ∃ W, W = w.alloc (.cells #[.int .i64 n, .int .i64 t, .int .i64 q, .int .i64 b] 23) := ⟨_, rfl⟩
  have huW : Up w W0 := by rw [hW0]; exact (Up.refl _).alloc _
  have hC0 : W0.cell? ⟨w.heap.size, 0, none⟩ = some (.int .i64 (n : Int)) := by rw [hW0]; simp
  have hC1 : W0.cell? ⟨w.heap.size, 1, none⟩ = some (.int .i64 (t : Int)) := by rw [hW0]; simp
  have hC2 : W0.cell? ⟨w.heap.size, 2, none⟩ = some (.int .i64 q) := by rw [hW0]; simp
  have hC3 : W0.cell? ⟨w.heap.size, 3, none⟩ = some (.int .i64 b) := by rw [hW0]; simp
  have HC : Hid _ := (⟨hC0, hC1, hC2, hC3⟩ : _ ∧ _ ∧ _ ∧ _)
  rw [← hW0]
  clear hW0 hC0 hC1 hC2 hC3
  have iv0 := iv.up huW
  clear iv
  go_loopw [8, 9] (fun v sr wr => ∃ r : Nat, r ≤ 2 ∧ sr = .int .i64 (r : Int) ∧ OwnI wr W0.heap.size v ((List.range (r * d)).map (apC n t s.data.toList vs)) ∧ Up W0 wr) (fun _ sr _ => 2 - (intOf sr).toNat)
  case atStart => exact ⟨0, Nat.zero_le _, rfl, by rw [Nat.zero_mul]; exact World.ownsRow_nil _ _ _ _, Up.refl _⟩
  case round =>
    obtain ⟨r, hr, rfl, hown, hu⟩ := hrel
    by_cases hr2 : r < 2
    · have hrd : r * d ≤ d := by rcases (by omega : r = 0 ∨ r = 1) with rfl | rfl <;> omega
      obtain ⟨D, hD⟩ : ∃ D, D = r * d := ⟨_, rfl⟩
      rw [← hD] at hown hrd
      have HD : Hid _ := hD
      have e2 : IntKind.i64.wrap ((r : Int) * (d : Int)) = (D : Int) := by rw [← Int.natCast_mul, ← hD]; exact IntWalk.i64_in _ (by omega)
      have hdd : d * d ≤ 8 * 8 := Nat.mul_le_mul hd8 hd8
      obtain ⟨A, hA⟩ : ∃ A, A = 2 * (d * d) := ⟨_, rfl⟩
      have HA : Hid _ := hA
      have hA2 : A ≤ 128 := by omega
      have e1 : IntKind.i64.wrap (2 * (d : Int) * (d : Int)) = (A : Int) := by
        rw [show 2 * (d : Int) * (d : Int) = (A : Int) by rw [hA, Int.natCast_mul, Int.natCast_mul, Int.mul_assoc]; rfl]
        exact IntWalk.i64_in _ (by omega)
      clear hD hA hdd
      go_wp2_with fail
      rw [show decide ((r : Int) < 2) = true from decide_eq_true (by omega)]
      go_loopw [8, 10] (fun v sj wx => ∃ j : Nat, j ≤ d ∧ sj = .int .i64 (j : Int) ∧ OwnI wx W0.heap.size v ((List.range (D + j)).map (apC n t s.data.toList vs)) ∧ Up W0 wx) (fun _ sj _ => d - (intOf sj).toNat)
      case atStart => exact ⟨0, Nat.zero_le _, rfl, hown, hu⟩
      case round =>
        obtain ⟨j, hj, rfl, hown2, hu2⟩ := hrel
        clear hown hu
        by_cases hjd : j < d
        · have HSj : Hid _ := HSt.out (D + j)
          have hdiv : (D + j) / d = r := by rw [HD.out, Nat.mul_comm, Nat.mul_add_div (by omega), Nat.div_eq_of_lt hjd, Nat.add_zero]
          have hmod : (D + j) % d = j := by rw [HD.out, Nat.mul_comm, Nat.mul_add_mod, Nat.mod_eq_of_lt hjd]
          rw [hdiv, hmod] at HSj
          clear hdiv hmod
          have hb2 : apB n s.data.toList (D + j) < 65536 := numL_two _ _
          have HNj : Hid (∀ z W, z = 3 + (A : Int) + 2 * ((D : Int) + (j : Int)) → Calls Tryz.prog 99 #[.string s, .int .i64 z, .int .i64 2] W fun e w' => e = .returned (.int .i64 (apB n s.data.toList (D + j))) ∧ w' = W) := fun z W hz => by
            have h1 := HNm.out (D + j) W (by omega)
            rw [← HA.out] at h1
            rw [show z = ((3 + A + 2 * (D + j) : Nat) : Int) by omega]
            exact h1
          generalize apB n s.data.toList (D + j) = B at HSj HNj hb2
          go_wp2_with fail
          refine Calls.mono (HNj.out _ _ (by omega)) ?_
          rintro e w' ⟨rfl, rfl⟩
          go_wp2_with fail
          go_loopw [11, 12] (fun sn sk wy => ∃ k : Nat, k ≤ d ∧ sk = .int .i64 (k : Int) ∧ sn = .int .i64 ((B : Int) + sumI (apT n s.data.toList vs r j) k) ∧ Up w' wy) (fun _ sk _ => d - (intOf sk).toNat)
          case atStart => exact ⟨0, Nat.zero_le _, rfl, by simp [sumI], Up.refl _⟩
          case round =>
            obtain ⟨k, hk, rfl, rfl, hu3⟩ := hrel
            have hsb := HBd.out r j k
            by_cases hkd : k < d
            · have HSk : Hid _ := HSm.out r j k
              rw [← HD.out] at HSk
              have HEk : Hid _ := fun W => HE.out j k W (by omega) (by omega)
              have hx := numL_two s.data.toList (entN n j k)
              have hcv := (iv0.up (hu2.trans hu3)).2 (D + k) (by have := HND.out; rw [HL.out]; omega)
              have hy := HV.out (D + k)
              generalize numL s.data.toList (entN n j k) 2 = x at HSk HEk hx
              generalize vs.getD (D + k) 0 = y at HSk hcv hy
              generalize sumI (apT n s.data.toList vs r j) k = S at hsb HSk
              have hxy0 : 0 ≤ (x : Int) * y := Int.mul_nonneg (by omega) hy.1
              have hxy1 : (x : Int) * y ≤ 65536 * 65536 := Int.mul_le_mul (by omega) hy.2 hy.1 (by omega)
              have f1 : IntKind.i64.wrap ((x : Int) * y) = (x : Int) * y := IntWalk.i64_in _ (by omega)
              have f2 : IntKind.i64.wrap ((B : Int) + S + (x : Int) * y) = (B : Int) + S + (x : Int) * y := IntWalk.i64_in _ (by omega)
              have f3 : IntKind.i64.wrap ((D : Int) + (k : Int)) = ((D + k : Nat) : Int) := by rw [IntWalk.i64_in _ (by omega)]; omega
              have f4 : (0 : Int) ≤ ((D + k : Nat) : Int) := by omega
              have f5 : ((D + k : Nat) : Int) < (n : Int) := by have := HND.out; omega
              generalize D + k = A7 at hcv f3 f4 f5
              have hP0 := keepU (hu2.trans hu3) HC.out.1
              have hP1 := keepU (hu2.trans hu3) HC.out.2.1
              have hP2 := keepU (hu2.trans hu3) HC.out.2.2.1
              have hP3 := keepU (hu2.trans hu3) HC.out.2.2.2
              go_wp2_with fail
              go_region_held3 (fun w' => w'.cell? ⟨w.heap.size, 0, none⟩ = some (.int .i64 (n : Int)) ∧ w'.cell? ⟨w.heap.size, 1, none⟩ = some (.int .i64 (t : Int)) ∧ w'.cell? ⟨w.heap.size, 2, none⟩ = some (.int .i64 q) ∧ w'.cell? ⟨w.heap.size, 3, none⟩ = some (.int .i64 b) ∧ w'.cell? ⟨gv, A7, none⟩ = some (.int .i64 y))
                (first | go_keep | exact keepP5 hu4 (by assumption))
                ((first | (go_at_call 106; refine Calls.mono (HEk.out _) ?_; rintro e w4 ⟨rfl, hu4⟩)))
              clear hP0 hP1 hP2 hP3 hcv
              go_wp2_with fail
              go_roundw
              case rel => exact ⟨k + 1, by omega, by go_num, by rw [HSk.out, Int.add_assoc], hu3.trans (Up.trans (Up.drew (Up.refl _)) hu4)⟩
              case measure => simp [intOf]; omega
            · obtain rfl : k = d := by omega
              generalize sumI (apT n s.data.toList vs r j) k = S at hsb HSj
              have hS1 : (B : Int) + S ≤ 65536 + 8 * 4294967296 := by omega
              have hS0 : 0 ≤ (B : Int) + S := by omega
              have et1 : ((B : Int) + S).tmod (t : Int) = ((B : Int) + S) % (t : Int) := Int.tmod_eq_emod_of_nonneg hS0
              have ed1 : ¬ (t : Int) = 0 := by omega
              have ed2 : ¬ t = 0 := by omega
              have ed0 : ((t : Int) == 0) = false := beq_eq_false_iff_ne.2 ed1
              generalize ((B : Int) + S) % (t : Int) = R at et1 HSj
              have hP1 := keepU (hu2.trans hu3) HC.out.2.1
              clear e2 e1
              go_wp2_with (at_builtin; refine append_int _ _ rfl _ _ rfl _ _ _ rfl (hown2.up hu3) rfl (by simp; omega) (hu2.trans hu3).size ?_)
              intro v4 w4 hown4 hg4 hb4 _
              clear hown2 hg4 hP1
              go_wp2_with fail
              go_roundw
              case rel => exact ⟨j + 1, by omega, by go_num, by rw [← Nat.add_assoc, HSj.out]; exact hown4, Below.trans (hu2.trans hu3) hb4⟩
              case measure => simp [intOf]; omega
        · obtain rfl : j = d := by omega
          go_wp2_with fail
          go_roundw
          case rel => exact ⟨r + 1, by omega, by go_num, by rw [Nat.succ_mul, ← HD.out]; exact hown2, hu2⟩
          case measure => simp [intOf]; omega
    · obtain rfl : r = 2 := by omega
      have hown3 : OwnI wr w.heap.size u8 ans := by
        rw [HDf.out, show List.range n = List.range (2 * d) from congrArg _ HND.out]
        exact OwnI.base hown huW.size
      go_wp2_with fail
      go_ret
      exact ⟨_, rfl, hown3, huW.trans hu⟩

end Go.Proofs.YtcjhgbljhpflfabGreat
