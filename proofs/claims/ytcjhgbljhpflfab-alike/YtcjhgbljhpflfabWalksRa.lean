/-
  Walks: the reference's Plus, Scaled, Times.
  Walks: the reference's Pair, Secret, Digits.
  Walks: the reference's Secret, Digits.
  Walks: the reference's Cubed.
  Walks: the reference's hidden.
  Walks: the reference's Key and TurnKey.
-/
import Derived.Test.YtcjhgbljhpflfabWalksY
import Derived.Test.YtcjhgbljhpflfabMathE
namespace Go.Proofs.Ytcjhgbljhpflfab
open Go.RowKit
set_option linter.unusedVariables false
set_option maxRecDepth 100000

/-- all numbers lie from -m to m -/
def Bnd (xs : List Int) (m : Int) : Prop := ∀ i, -m ≤ xs.getD i 0 ∧ xs.getD i 0 ≤ m

set_option maxHeartbeats 2000000 in
theorem Plus_calls (n : Nat) (xs ys : List Int) (ga gb ca cb : Nat) (q : Int) (w : World) (hn : n ≤ 16) (hla : xs.length = n) (hlb : ys.length = n) (hq : 0 < q) (hq2 : q ≤ 1073741823) (ha : Bnd xs 4294967296) (hb : Bnd ys 4294967296) (ia : IsI w ga xs) (ib : IsI w gb ys) :
    Calls Try.prog 67 #[.slice (some ⟨ga, 0, none⟩) n ca, .slice (some ⟨gb, 0, none⟩) n cb, .int .i64 q] w fun e w' => ∃ v, e = .returned v ∧ OwnI w' w.heap.size v (plusI n xs ys q) ∧ Up w w' := by
  have HA : Hid _ := ha
  have HB : Hid _ := hb
  have HLA : Hid _ := hla
  have HLB : Hid _ := hlb
  have hga := ia.1
  have hgb := ib.1
  clear ha hb hla hlb
  go_enter Try.func67, Try.ntmps67
  go_wp2_with fail
  go_loopw [7, 8] (fun v j wr => ∃ k : Nat, k ≤ n ∧ j = .int .i64 (k : Int) ∧ OwnI wr w.heap.size v ((List.range k).map (plusC xs ys q)) ∧ Up w wr) (fun _ j _ => n - (intOf j).toNat)
  case atStart => exact ⟨0, Nat.zero_le _, rfl, World.ownsRow_nil _ _ _ _, Up.refl _⟩
  case round =>
    obtain ⟨k, hk, rfl, hown, hu⟩ := hrel
    by_cases hlt : k < n
    · have hca := (ia.up hu).2 k (by rw [HLA.out]; omega)
      have hcb := (ib.up hu).2 k (by rw [HLB.out]; omega)
      have hba := HA.out k
      have hbb := HB.out k
      have HR : Hid ((List.range (k + 1)).map (plusC xs ys q) = (List.range k).map (plusC xs ys q) ++ [(xs.getD k 0 + ys.getD k 0) % q]) := map_range_succ _ _
      generalize xs.getD k 0 = x at hca hba HR
      generalize ys.getD k 0 = y at hcb hbb HR
      have e1 : IntKind.i64.wrap (x + y) = x + y := IntWalk.i64_in _ (by omega)
      have hi0 : (0 : Int) ≤ (k : Int) := by omega
      have hi1 : (k : Int) < (n : Int) := by omega
      have hcn : (wr.alloc (.cells #[.int .i64 ((x + y) % q)] 3)).drew.cell? ⟨wr.heap.size, 0, none⟩ = some (.int .i64 ((x + y) % q)) := by simp
      have hbs := Nat.le_trans hu.size (Up.drew (Up.alloc (Up.refl wr) (.cells #[.int .i64 ((x + y) % q)] 3))).size
      go_wp2_with fail
      go_region_held3 (fun w' => w'.cell? ⟨ga, k, none⟩ = some (.int .i64 x) ∧ w'.cell? ⟨gb, k, none⟩ = some (.int .i64 y))
        (first | go_keep | exact keepS hb4 hga hgb (by assumption))
        ((first | (go_at_call 113; refine (Mod_calls _ _ _ (by omega) (by omega)).mono ?_; rintro e w' ⟨rfl, rfl⟩) | (refine step_append_int (wr.alloc (.cells #[.int .i64 ((x + y) % q)] 3)).drew ((x + y) % q) wr.heap.size rfl (.tmp 15) (.tmp 27) rfl _ u7 ((List.range k).map (plusC xs ys q)) rfl (hown.up (Up.drew (Up.alloc (Up.refl _) _))) rfl hcn (by simp; omega) hbs ?_; intro v4 w4 hown4 hg4 hb4)))
      clear hcn hbs hca hcb
      go_wp2_with fail
      go_roundw
      case rel => exact ⟨k + 1, by omega, by go_num, by rw [HR.out]; exact hown4, Below.trans (Up.drew (Below.alloc hu hu.size _)) hb4⟩
      case measure => simp [intOf]; omega
    · obtain rfl : k = n := by omega
      go_wp2_with fail
      go_ret
      exact ⟨_, rfl, hown, hu⟩

theorem mul_in (a y m : Int) (ha1 : -m ≤ a) (ha2 : a ≤ m) (hy1 : 0 ≤ y) (hy2 : y ≤ m) (hm : 0 ≤ m) : -(m * m) ≤ a * y ∧ a * y ≤ m * m := by
  rcases Int.le_total 0 a with h | h
  · have h1 := Int.mul_nonneg h hy1
    have h2 : a * y ≤ m * m := Int.mul_le_mul ha2 hy2 hy1 hm
    have h3 := Int.mul_nonneg hm hm
    omega
  · have h1 := Int.mul_nonneg (show 0 ≤ -a by omega) hy1
    have h2 : -a * y ≤ m * m := Int.mul_le_mul (by omega) hy2 hy1 hm
    have h3 := Int.mul_nonneg hm hm
    rw [Int.neg_mul] at h1 h2
    omega

end Go.Proofs.Ytcjhgbljhpflfab

namespace Go.Proofs.Ytcjhgbljhpflfab
open Go.RowKit
set_option linter.unusedVariables false
set_option maxRecDepth 100000

/-- a drawn pair -/
def prA (l : List UInt8) (q : Int) (at0 i : Nat) : Int := (numL l (at0 + 4 * i) 4 : Int) % q
def prE (l : List UInt8) (n at0 i : Nat) : Int := (byteL l (at0 + 4 * n + i) : Int) % 5 - 2
def pairA (l : List UInt8) (q : Int) (n at0 : Nat) : List Int := (List.range n).map (prA l q at0)
def pairE (l : List UInt8) (n at0 : Nat) : List Int := (List.range n).map (prE l n at0)

theorem keep1 {B a k : Nat} {u : Value} {W W' : World} (hb : Below B W W') (h1 : a < B) (hS : W.cell? ⟨a, k, none⟩ = some u) : W'.cell? ⟨a, k, none⟩ = some u := (hb.cell (p := ⟨a, k, none⟩) h1).trans hS

/-- an append of one number at a step of a region that draws, and where it lies -/
theorem step_append_int2 {ops : Array Oper} {o : Oper} {a : Act} {K : Act → World → Prop} {Q : Exit → Act → World → Prop} {E : Prop} (W : World) (y : Int) (g : Nat) (hgd : o.guard = none) (s x : Operand)
    (ho : o.op = .call { callee := .builtin .append, args := #[s, x], argTypes := #[26, 26] })
    (base : Nat) (v : Value) (xs : List Int) (hs : a.eval s = v) (hown : OwnI W base v xs) (hx : a.eval x = .slice (some ⟨g, 0, none⟩) 1 1) (hc : W.cell? ⟨g, 0, none⟩ = some (.int .i64 y))
    (hlen : xs.length ≤ 1099511627776) (hbase : base ≤ W.heap.size)
    (h : ∀ v' w', OwnI w' base v' (xs ++ [y]) → W.grownBy w' v.ownBlock → Below base W w' → (v'.ownBlock = v.ownBlock ∨ ∃ g, v'.ownBlock = some g ∧ W.heap.size ≤ g) → K (a.put o.dst v') w') :
    if Region.wanted o (yielded ops a.tmps) = true then Oper.wp Try.prog o a W K Q else E := by
  have hw : Region.wanted o (yielded ops a.tmps) = true := by simp [Region.wanted, hgd]
  rw [if_pos hw]
  obtain ⟨i0, hi, hz0, hz1, hz2⟩ := info_parts info_int
  obtain ⟨v', w', hr, h2, h3, h4, h5⟩ := run_append_own_at (P := Try.prog) W base 26 o.type 3 i0 (.int .i64 0) 1 8 Try.underlying26 hi hz0 hz1 hz2 rfl (by decide) v xs.length (xs.map (Value.int .i64)) hown
    ⟨g, 0, none⟩ 1 1 [.int .i64 y] rfl (by
      intro j u hj
      match j, hj with
      | 0, hj => simp at hj; subst hj; simpa [Addr.add] using hc) (by intro u hu; simp at hu; subst hu; rfl) (by unfold maxLen; omega) (by omega) hbase
  unfold Oper.wp execOp
  simp only [ho, resolve, invoke, builtin, Sem.run_bind, Sem.run_pure, Result.andThen_ok, List.map_toArray, List.map_cons, List.map_nil, hs, hx, hr]
  refine h v' w' ?_ h3 ?_ ?_
  · simpa [OwnI] using h2
  · exact (Below.refl _ _).grown h3 hbase (fun k hk => (World.ownsRow.lt hown k hk).1)
  · rcases h5 with h5 | h5
    · exact Or.inl h5
    · exact Or.inr ⟨_, h5, Nat.le_refl _⟩

end Go.Proofs.Ytcjhgbljhpflfab

namespace Go.Proofs.Ytcjhgbljhpflfab
open Go.RowKit
set_option linter.unusedVariables false
set_option maxRecDepth 100000

/-- is the text a key? -/
def secB (l : List UInt8) (n : Nat) : Bool := decide (l.length = n + 1) && decide (byteL l 0 = 75) && okL l.tail n 1 3
def secI (l : List UInt8) (n : Nat) : List Int := (List.range n).map fun i => (byteL l (i + 1) : Int) - 1

theorem ext_list (s : ByteArray) (i j : Nat) (hj : j ≤ s.size) : (s.extract i j).data.toList = (s.data.toList.take j).drop i := by
  have e : (s.extract i j).data = s.data.extract i j := by simp
  rw [e, Array.toList_extract, List.extract_eq_take_drop, List.drop_take]

theorem ext_tail (s : ByteArray) : (s.extract 1 s.size).data.toList = s.data.toList.tail := by
  rw [ext_list s 1 s.size (Nat.le_refl _)]
  have : s.data.toList.take s.size = s.data.toList := List.take_of_length_le (by simp)
  rw [this, List.drop_one]

theorem set_range (f h : Nat → Int) (n k : Nat) (hk : k < n) : ((List.range n).map f).set k (h k) = (List.range n).map (fun i => if i = k then h k else f i) := by
  apply List.ext_getElem
  · simp
  · intro i h1 h2
    simp only [List.getElem_set, List.getElem_map, List.getElem_range]
    by_cases e : k = i
    · subst e; simp
    · rw [if_neg e, if_neg (fun c => e c.symm)]

/-- a store into an owned list -/
theorem OwnI.stored {w : World} {base g cap n : Nat} {f : Nat → Int} (h : OwnI w base (.slice (some ⟨g, 0, none⟩) n cap) ((List.range n).map f)) (k : Nat) (hk : k < n) (x : Int) :
    OwnI (w.setCell ⟨g, k, none⟩ (.int .i64 x)) base (.slice (some ⟨g, 0, none⟩) n cap) ((List.range n).map (fun i => if i = k then x else f i)) ∧ Below base w (w.setCell ⟨g, k, none⟩ (.int .i64 x)) := by
  have hlen : ((List.range n).map f).length = n := by simp
  have h' : w.ownsRow base 3 1 (.slice (some ⟨g, 0, none⟩) n cap) n (((List.range n).map f).map (Value.int .i64)) := by
    have := h
    unfold OwnI at this
    rw [hlen] at this
    exact this
  obtain ⟨h1, h2⟩ := World.ownsRow.stored h' k (.int .i64 x)
  refine ⟨?_, ?_⟩
  · have e : (((List.range n).map f).map (Value.int .i64)).set k (.int .i64 x) = ((List.range n).map (fun i => if i = k then x else f i)).map (Value.int .i64) := by
      rw [← List.map_set, set_range f (fun _ => x) n k hk]
    rw [e] at h1
    unfold OwnI
    have hl2 : ((List.range n).map (fun i => if i = k then x else f i)).length = n := by simp
    rw [hl2]
    exact h1
  · exact (Below.refl _ _).setCell (p := ⟨g, k, none⟩) (h.block_lt.1) _

theorem OwnI.cellAt {w : World} {base g cap n : Nat} {f : Nat → Int} (h : OwnI w base (.slice (some ⟨g, 0, none⟩) n cap) ((List.range n).map f)) (k : Nat) (hk : k < n) :
    w.cell? ⟨g, k, none⟩ = some (.int .i64 (f k)) ∧ w.frozen? ⟨g, k, none⟩ = false := by
  have hlen : ((List.range n).map f).length = n := by simp
  have h' : w.ownsRow base 3 1 (.slice (some ⟨g, 0, none⟩) n cap) n (((List.range n).map f).map (Value.int .i64)) := by
    have := h
    unfold OwnI at this
    rw [hlen] at this
    exact this
  refine ⟨?_, World.ownsRow.frozenAt h' k⟩
  rw [World.ownsRow.cellAt h' k (by omega)]
  simp [hk]

theorem numsL_range (l : List UInt8) (size n : Nat) : numsL l size n = (List.range n).map fun i => (numL l (i * size) size : Int) := by
  induction n with
  | zero => rfl
  | succ n ih => rw [numsL, ih, map_range_succ]

theorem byteL_tail (l : List UInt8) (i : Nat) : byteL l.tail i = byteL l (i + 1) := by
  unfold byteL
  cases l <;> simp

theorem secB_iff (l : List UInt8) (n : Nat) : secB l n = true ↔ l.length = n + 1 ∧ byteL l 0 = 75 ∧ okL l.tail n 1 3 = true := by
  unfold secB
  simp [and_assoc]

end Go.Proofs.Ytcjhgbljhpflfab

namespace Go.Proofs.Ytcjhgbljhpflfab
open Go.RowKit
set_option linter.unusedVariables false
set_option maxRecDepth 100000

/-- the place that comes to i when x^3 is put in the place of x -/
def kOf (n i : Nat) : Nat := if n = 16 then 11 * i % n else 3 * i % n

theorem kOf_facts (n : Nat) (hn : n = 4 ∨ n = 8 ∨ n = 16) : ∀ i, i < n → kOf n i < n ∧ (3 * kOf n i % (2 * n) = i ∨ 3 * kOf n i % (2 * n) = i + n) ∧ ∀ k, k < n → k ≠ kOf n i → 3 * k % (2 * n) ≠ i ∧ 3 * k % (2 * n) ≠ i + n := by
  rcases hn with rfl | rfl | rfl <;> decide

/-- coefficient i with x^3 in the place of x -/
def cubC (n : Nat) (xs : List Int) (q : Int) (i : Nat) : Int := if 3 * kOf n i % (2 * n) = i then xs.getD (kOf n i) 0 % q else -(xs.getD (kOf n i) 0) % q
def cubI (n : Nat) (xs : List Int) (q : Int) : List Int := (List.range n).map (cubC n xs q)

end Go.Proofs.Ytcjhgbljhpflfab

namespace Go.Proofs.Ytcjhgbljhpflfab
open Go.RowKit
set_option linter.unusedVariables false
set_option maxRecDepth 100000

theorem keepU {a k : Nat} {u : Value} {W W' : World} (hu : Up W W') (hS : W.cell? ⟨a, k, none⟩ = some u) : W'.cell? ⟨a, k, none⟩ = some u :=
  (hu.cell (p := ⟨a, k, none⟩) (World.block_lt_of_cell? W ⟨a, k, none⟩ hS)).trans hS

theorem getD_out (xs : List Int) (i : Nat) (h : xs.length ≤ i) : xs.getD i 0 = 0 := by
  rw [List.getD_eq_getElem?_getD, List.getElem?_eq_none h]; rfl

theorem Bnd_map {f : Nat → Int} {n : Nat} {m : Int} (hm : 0 ≤ m) (h : ∀ i, i < n → -m ≤ f i ∧ f i ≤ m) : Bnd ((List.range n).map f) m := by
  intro i
  by_cases hi : i < n
  · rw [getD_range hi]; exact h i hi
  · rw [getD_out _ _ (by simp; omega)]; omega

theorem Bnd_mod {f : Nat → Int} {n : Nat} {q m : Int} (hq : 0 < q) (hm : q ≤ m) (e : ∀ i, ∃ x, f i = x % q) : Bnd ((List.range n).map f) m := by
  refine Bnd_map (by omega) fun i _ => ?_
  obtain ⟨x, hx⟩ := e i
  have := mod_bounds hq x
  rw [hx]
  omega

theorem plusI_length (n : Nat) (xs ys : List Int) (q : Int) : (plusI n xs ys q).length = n := by simp [plusI]
theorem scaledI_length (n : Nat) (xs : List Int) (k q : Int) : (scaledI n xs k q).length = n := by simp [scaledI]
theorem timesI_length (n : Nat) (xs ys : List Int) (q : Int) : (timesI n xs ys q).length = n := by simp [timesI]
theorem pairA_length (l : List UInt8) (q : Int) (n at0 : Nat) : (pairA l q n at0).length = n := by simp [pairA]
theorem pairE_length (l : List UInt8) (n at0 : Nat) : (pairE l n at0).length = n := by simp [pairE]
theorem secI_length (l : List UInt8) (n : Nat) : (secI l n).length = n := by simp [secI]
theorem cubI_length (n : Nat) (xs : List Int) (q : Int) : (cubI n xs q).length = n := by simp [cubI]

theorem pairE_bnd (l : List UInt8) (n at0 : Nat) (m : Int) (hm : 2 ≤ m) : Bnd (pairE l n at0) m := by
  refine Bnd_map (by omega) fun i _ => ?_
  have := byteL_lt l (at0 + 4 * n + i)
  unfold prE
  omega

/-- m, hidden by a drawn pair, times k: c -/
def hidI (n : Nat) (s m : List Int) (k q : Int) (l : List UInt8) (at0 : Nat) : List Int :=
  plusI n (plusI n (pairE l n at0) (scaledI n m k q) q) (scaledI n (timesI n (pairA l q n at0) s q) (-1) q) q

theorem hidI_length (n : Nat) (s m : List Int) (k q : Int) (l : List UInt8) (at0 : Nat) : (hidI n s m k q l at0).length = n := plusI_length _ _ _ _

end Go.Proofs.Ytcjhgbljhpflfab

namespace Go.Proofs.Ytcjhgbljhpflfab
open Go.RowKit
set_option linter.unusedVariables false
set_option maxRecDepth 100000

/-- the key of these draws -/
def keyL (l : List UInt8) (n : Nat) : List UInt8 := 75 :: (List.range n).map fun i => UInt8.ofNat (byteL l i % 3)

theorem keyL_succ (l : List UInt8) (n : Nat) : keyL l (n + 1) = keyL l n ++ [UInt8.ofNat (byteL l n % 3)] := by simp [keyL, List.range_succ]
theorem keyL_length (l : List UInt8) (n : Nat) : (keyL l n).length = n + 1 := by simp [keyL]

theorem add_str (xs ys : List UInt8) (hx : xs.length ≤ 1000000) (hy : ys.length ≤ 1000000) (W : World) : (Op.stringOp .add ⟨xs.toArray⟩ ⟨ys.toArray⟩).run Try.prog W = .ok (.string ⟨(xs ++ ys).toArray⟩) W :=
  run_string_add_lists (P := Try.prog) W xs ys (by omega) (by omega)

/-- the least number of digits -/
structure DigOf (q b : Int) (L : Nat) : Prop where
  top : q ≤ 2 ^ (b.toNat * L)
  low : ∀ j, j < L → (2 : Int) ^ (b.toNat * j) < q

theorem DigOf.le {q b : Int} {L : Nat} (h : DigOf q b L) (hb : 1 ≤ b) (hq : q ≤ 1073741823) : L ≤ 30 := by
  rcases Nat.lt_or_ge 30 L with c | c
  · exfalso
    have h3 := h.low 30 c
    have h4 : (2 : Int) ^ (1 * 30) ≤ 2 ^ (b.toNat * 30) := by
      have : (2 : Nat) ^ (1 * 30) ≤ 2 ^ (b.toNat * 30) := Nat.pow_le_pow_right (by omega) (Nat.mul_le_mul_right _ (by omega))
      exact_mod_cast this
    have h5 : (2 : Int) ^ (1 * 30) = 1073741824 := by decide
    omega
  · exact c

/-- the pairs of a turning key, the first L -/
def tkL (n : Nat) (ss : List Int) (q b : Int) (l : List UInt8) : Nat → List UInt8
  | 0 => [82]
  | i + 1 => tkL n ss q b l i ++ textsL 4 (hidI n ss (cubI n ss q) (2 ^ (b.toNat * i)) q l (5 * n * i)) ++ textsL 4 (pairA l q n (5 * n * i))

theorem tkL_length (n : Nat) (ss : List Int) (q b : Int) (l : List UInt8) (i : Nat) : (tkL n ss q b l i).length = 1 + 8 * n * i := by
  induction i with
  | zero => rfl
  | succ i ih =>
    simp only [tkL, List.length_append, ih, textsL_length, hidI_length, pairA_length]
    rw [Nat.mul_succ]
    omega

theorem secI_bnd (l : List UInt8) (n : Nat) : Bnd (secI l n) 4294967296 := by
  refine Bnd_map (by omega) fun i _ => ?_
  have := byteL_lt l (i + 1)
  omega

theorem plusI_bounds (n : Nat) (xs ys : List Int) (q : Int) (hq : 0 < q) (i : Nat) (hi : i < (plusI n xs ys q).length) : 0 ≤ (plusI n xs ys q).getD i 0 ∧ (plusI n xs ys q).getD i 0 < q := by
  rw [plusI_length] at hi
  unfold plusI
  rw [getD_range hi]
  exact mod_bounds hq _

theorem hidI_bounds (n : Nat) (ss ms : List Int) (k q : Int) (l : List UInt8) (at0 : Nat) (hq : 0 < q) (i : Nat) (hi : i < (hidI n ss ms k q l at0).length) : 0 ≤ (hidI n ss ms k q l at0).getD i 0 ∧ (hidI n ss ms k q l at0).getD i 0 < q := plusI_bounds n _ _ q hq i hi

theorem pairA_bounds (l : List UInt8) (q : Int) (n at0 : Nat) (hq : 0 < q) (i : Nat) (hi : i < (pairA l q n at0).length) : 0 ≤ (pairA l q n at0).getD i 0 ∧ (pairA l q n at0).getD i 0 < q := by
  rw [pairA_length] at hi
  unfold pairA
  rw [getD_range hi]
  exact mod_bounds hq _

theorem keep4 {a : Nat} {u0 u1 u2 u3 : Value} {W W' : World} (hu : Up W W') (hS : W.cell? ⟨a, 0, none⟩ = some u0 ∧ W.cell? ⟨a, 1, none⟩ = some u1 ∧ W.cell? ⟨a, 2, none⟩ = some u2 ∧ W.cell? ⟨a, 3, none⟩ = some u3) :
    W'.cell? ⟨a, 0, none⟩ = some u0 ∧ W'.cell? ⟨a, 1, none⟩ = some u1 ∧ W'.cell? ⟨a, 2, none⟩ = some u2 ∧ W'.cell? ⟨a, 3, none⟩ = some u3 :=
  ⟨keepU hu hS.1, keepU hu hS.2.1, keepU hu hS.2.2.1, keepU hu hS.2.2.2⟩

theorem pow_b (b : Int) (hb : 1 ≤ b) (hb2 : b ≤ 8) : (2 : Int) ^ b.toNat % 1048576 = 2 ^ b.toNat ∧ (2 : Int) ^ b.toNat ≤ 256 ∧ 2 ≤ (2 : Int) ^ b.toNat := by
  obtain ⟨m, rfl⟩ := Int.eq_ofNat_of_zero_le (a := b) (by omega)
  rw [Int.toNat_natCast]
  rcases (show m = 1 ∨ m = 2 ∨ m = 3 ∨ m = 4 ∨ m = 5 ∨ m = 6 ∨ m = 7 ∨ m = 8 from by omega) with rfl | rfl | rfl | rfl | rfl | rfl | rfl | rfl <;> decide

end Go.Proofs.Ytcjhgbljhpflfab
