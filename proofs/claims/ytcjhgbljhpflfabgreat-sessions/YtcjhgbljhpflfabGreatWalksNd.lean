/-
  Walks: the reference's Turn, MulPlain, Add, AddPlain of any text; Linear where it refuses.
  Walks: the reference's Linear, where values or the turning key are wrong.
  Walks: the reference's Linear, where it goes through.
-/
import Derived.Test.YtcjhgbljhpflfabGreatWalksNa
import Derived.Test.YtcjhgbljhpflfabGreatWalksT
namespace Go.Proofs.YtcjhgbljhpflfabGreat
open Go.RowKit
set_option linter.unusedVariables false
set_option maxRecDepth 100000

def turnA (n t : Nat) (q b : Int) (L : Nat) (x l : List UInt8) : List UInt8 × Int := if ctB x n t q = true then turnL n t q b L x l else ([], 2)
def mulA (n t : Nat) (q : Int) (x v : List UInt8) : List UInt8 × Int := if ctB x n t q = true then (if okL v n 2 t = true then mulPlainL n t q x v else ([], 3)) else ([], 2)
def addA (n t : Nat) (q : Int) (x y : List UInt8) : List UInt8 × Int := if ctB x n t q = true then (if ctB y n t q = true then addL n t q x y else ([], 2)) else ([], 2)
def addPlainA (n t : Nat) (q : Int) (x v : List UInt8) : List UInt8 × Int := if ctB x n t q = true then (if okL v n 2 t = true then addPlainL n t q x v else ([], 3)) else ([], 2)

theorem Turn_all (n t L : Nat) (q b : Int) (x y : ByteArray) (w : World) (hx : x.size ≤ maxLen) (hy : y.size ≤ maxLen) (g : NT n t) (hq : 2 ≤ q) (hq2 : q ≤ 1073741823) (hb : 1 ≤ b) (hb2 : b ≤ 8) (hL : DigOf q b L) (hg : goodB n t q b = true) (h1 : tnB y.data.toList (2 * n * L) q = true) :
    Calls Tryz.prog 47 #[.agg #[.int .i64 n, .int .i64 t, .int .i64 q, .int .i64 b], .string x, .string y] w fun e w' => e = .returned (.tuple #[.string ⟨(turnA n t q b L x.data.toList y.data.toList).1.toArray⟩, .int .i64 (turnA n t q b L x.data.toList y.data.toList).2]) ∧ Up w w' := by
  unfold turnA
  by_cases h0 : ctB x.data.toList n t q = true
  · rw [if_pos h0]; exact refTurn_ok n t L q b x y w hx hy g hq hq2 hb hb2 hL hg h0 h1
  · rw [if_neg h0]; exact refTurn_form n t L q b x y w hx hy g hq hq2 hb hb2 hL hg false _ (by simpa using h0) rfl (Or.inl rfl)

theorem MulPlain_all (n t : Nat) (q b : Int) (x v : ByteArray) (w : World) (hx : x.size ≤ maxLen) (hv : v.size ≤ maxLen) (g : NT n t) (hq : 2 ≤ q) (hq2 : q ≤ 1073741823) (hg : goodB n t q b = true) :
    Calls Tryz.prog 45 #[.agg #[.int .i64 n, .int .i64 t, .int .i64 q, .int .i64 b], .string x, .string v] w fun e w' => e = .returned (.tuple #[.string ⟨(mulA n t q x.data.toList v.data.toList).1.toArray⟩, .int .i64 (mulA n t q x.data.toList v.data.toList).2]) ∧ Up w w' := by
  unfold mulA
  by_cases h0 : ctB x.data.toList n t q = true
  · rw [if_pos h0]
    by_cases h1 : okL v.data.toList n 2 t = true
    · rw [if_pos h1]; exact refMulPlain_ok n t q b x v w hx hv g hq hq2 hg h0 h1
    · rw [if_neg h1]; exact refMulPlain_val n t q b x v w hx hv g hq hq2 hg h0 (by simpa using h1)
  · rw [if_neg h0]; exact refMulPlain_form n t q b x v w hx g hq hq2 hg (by simpa using h0)

theorem AddPlain_all (n t : Nat) (q b : Int) (x v : ByteArray) (w : World) (hx : x.size ≤ maxLen) (hv : v.size ≤ maxLen) (g : NT n t) (hq : 2 ≤ q) (hq2 : q ≤ 1073741823) (hg : goodB n t q b = true) :
    Calls Tryz.prog 49 #[.agg #[.int .i64 n, .int .i64 t, .int .i64 q, .int .i64 b], .string x, .string v] w fun e w' => e = .returned (.tuple #[.string ⟨(addPlainA n t q x.data.toList v.data.toList).1.toArray⟩, .int .i64 (addPlainA n t q x.data.toList v.data.toList).2]) ∧ Up w w' := by
  unfold addPlainA
  by_cases h0 : ctB x.data.toList n t q = true
  · rw [if_pos h0]
    by_cases h1 : okL v.data.toList n 2 t = true
    · rw [if_pos h1]; exact refAddPlain_ok n t q b x v w hx hv g hq hq2 hg h0 h1
    · rw [if_neg h1]; exact refAddPlain_val n t q b x v w hx hv g hq hq2 hg h0 (by simpa using h1)
  · rw [if_neg h0]; exact refAddPlain_form n t q b x v w hx g hq hq2 hg (by simpa using h0)

theorem Add_all (n t : Nat) (q b : Int) (x y : ByteArray) (w : World) (hx : x.size ≤ maxLen) (hy : y.size ≤ maxLen) (g : NT n t) (hq : 2 ≤ q) (hq2 : q ≤ 1073741823) (hg : goodB n t q b = true) :
    Calls Tryz.prog 48 #[.agg #[.int .i64 n, .int .i64 t, .int .i64 q, .int .i64 b], .string x, .string y] w fun e w' => e = .returned (.tuple #[.string ⟨(addA n t q x.data.toList y.data.toList).1.toArray⟩, .int .i64 (addA n t q x.data.toList y.data.toList).2]) ∧ Up w w' := by
  unfold addA
  by_cases h0 : ctB x.data.toList n t q = true
  · rw [if_pos h0]
    by_cases h1 : ctB y.data.toList n t q = true
    · rw [if_pos h1]; exact refAdd_ok n t q b x y w hx hy g hq hq2 hg h0 h1
    · rw [if_neg h1]; exact refAdd_form n t q b x y w hx hy g hq hq2 hg true false h0 (by simpa using h1) (Or.inr ⟨rfl, rfl⟩)
  · rw [if_neg h0]; exact refAdd_form n t q b x y w hx hy g hq hq2 hg false _ (by simpa using h0) rfl (Or.inl rfl)

theorem tellL_len (t q : Int) (e n : Nat) (c0 c1 : List Int) (h0 : c0.length = n) (h1 : c1.length = n) : (tellL t q e c0 c1).1.length ≤ 6 + 8 * n := by
  unfold tellL
  split
  · unfold toldL
    simp only [List.length_append, textL_length, textsL_length, h0, h1, List.length_cons, List.length_nil]
    omega
  · simp

theorem turnA_len (n t : Nat) (q b : Int) (L : Nat) (x l : List UInt8) : (turnA n t q b L x l).1.length ≤ 6 + 8 * n := by
  unfold turnA
  split
  · exact tellL_len _ _ _ _ _ _ (turn0_length _ _ _ _ _ _ _ (cubI_length _ _ _)) (turn1_length _ _ _ _ _ _)
  · simp

theorem mulA_len (n t : Nat) (q : Int) (x v : List UInt8) : (mulA n t q x v).1.length ≤ 6 + 8 * n := by
  unfold mulA
  split
  · split
    · exact tellL_len _ _ _ _ _ _ (timesI_length _ _ _ _) (timesI_length _ _ _ _)
    · simp
  · simp

theorem addA_len (n t : Nat) (q : Int) (x v : List UInt8) : (addA n t q x v).1.length ≤ 6 + 8 * n := by
  unfold addA
  split
  · split
    · exact tellL_len _ _ _ _ _ _ (plusI_length _ _ _ _) (plusI_length _ _ _ _)
    · simp
  · simp

/-- one more term: the turned ciphertext, the sum, the error -/
def linN (n t : Nat) (q b : Int) (L : Nat) (l k : List UInt8) (i : Nat) (c a : List UInt8) (e : Int) : List UInt8 × List UInt8 × Int :=
  if e = 0 then
    if (turnA n t q b L c k).2 = 0 then
      if (mulA n t q (turnA n t q b L c k).1 (diagL n l i)).2 = 0 then
        ((turnA n t q b L c k).1, (addA n t q a (mulA n t q (turnA n t q b L c k).1 (diagL n l i)).1).1, (addA n t q a (mulA n t q (turnA n t q b L c k).1 (diagL n l i)).1).2)
      else ((turnA n t q b L c k).1, a, (mulA n t q (turnA n t q b L c k).1 (diagL n l i)).2)
    else ((turnA n t q b L c k).1, a, (turnA n t q b L c k).2)
  else (c, a, e)

/-- what stands behind the term i -/
def linS (n t : Nat) (q b : Int) (L : Nat) (l k x : List UInt8) : Nat → List UInt8 × List UInt8 × Int
  | 0 => (x, (mulA n t q x (diagL n l 0)).1, (mulA n t q x (diagL n l 0)).2)
  | i + 1 => linN n t q b L l k (i + 1) (linS n t q b L l k x i).1 (linS n t q b L l k x i).2.1 (linS n t q b L l k x i).2.2

/-- what Linear answers -/
def linL (n t : Nat) (q b : Int) (L : Nat) (l x s m k : List UInt8) : List UInt8 × Int :=
  if (linS n t q b L l k x (n / 2 - 1)).2.2 = 0 then addPlainA n t q (linS n t q b L l k x (n / 2 - 1)).2.1 (textsL 2 (lessI n (appI n t l (numsL s 2 n)) (numsL m 2 n) t)) else ([], 4)

theorem linS_stuck (n t : Nat) (q b : Int) (L : Nat) (l k x : List UInt8) (i : Nat) (h : (linS n t q b L l k x i).2.2 ≠ 0) (j : Nat) : (linS n t q b L l k x (i + j)) = (linS n t q b L l k x i) := by
  induction j with
  | zero => rfl
  | succ j ih =>
    rw [← Nat.add_assoc, linS, ih]
    unfold linN
    rw [if_neg h]

theorem Values_any (n : Nat) (t q b : Int) (s : ByteArray) (w : World) (hs : s.size ≤ maxLen) (hn : n ≤ 16) (hn1 : 1 ≤ n) :
    Calls Tryz.prog 43 #[.agg #[.int .i64 n, .int .i64 t, .int .i64 q, .int .i64 b], .string s] w fun e w' => ∃ a x y, e = .returned (.tuple #[.slice a x y, .bool (okL s.data.toList n 2 t)]) ∧ Up w w' := by
  cases h : okL s.data.toList n 2 t with
  | true =>
    refine (Values_ok n t q b s w hs hn h).mono ?_
    rintro e w' ⟨v, rfl, ho, hu⟩
    obtain ⟨g, c, rfl, _, _⟩ := ho.is (ne_nil_of_length (numsL_length _ _ _) (by omega))
    exact ⟨_, _, _, rfl, hu⟩
  | false =>
    refine (Values_no n t q b s w hs hn h).mono ?_
    rintro e w' ⟨rfl, hu⟩
    exact ⟨_, _, _, rfl, hu⟩

set_option maxHeartbeats 400000 in
theorem refLinear_bad (n t q b : Int) (l x s m k : ByteArray) (w : World) (hg : goodB n t q b = false) :
    Calls Tryz.prog 9 #[.agg #[.int .i64 n, .int .i64 t, .int .i64 q, .int .i64 b], .string l, .string x, .string s, .string m, .string k] w fun e w' => e = .returned (.tuple #[.string ⟨#[]⟩, .int .i64 1]) ∧ Up w w' := by
  go_enter Tryz.func9, Tryz.ntmps9
  go_wp2_with (go_at_call 40; refine (refGood_calls _ _ _ _ _).mono ?_; rintro e w' ⟨rfl, hu⟩)
  go_ret2
  exact ⟨rfl, ((Up.refl _).alloc _).trans hu⟩

set_option maxHeartbeats 4000000 in
theorem refLinear_form (n t : Nat) (q b : Int) (l x s m k : ByteArray) (w : World) (hl : l.size ≤ maxLen) (hx : x.size ≤ maxLen) (g : NT n t) (hq : 2 ≤ q) (hq2 : q ≤ 1073741823) (hg : goodB n t q b = true) (o0 o1 : Bool) (h0 : layB l.data.toList n t = o0) (h1 : ctB x.data.toList n t q = o1) (h : o0 = false ∨ (o0 = true ∧ o1 = false)) :
    Calls Tryz.prog 9 #[.agg #[.int .i64 n, .int .i64 t, .int .i64 q, .int .i64 b], .string l, .string x, .string s, .string m, .string k] w fun e w' => e = .returned (.tuple #[.string ⟨#[]⟩, .int .i64 2]) ∧ Up w w' := by
  have ht := g.t3
  have ht2 := g.ht
  obtain ⟨hd1, hd2, hd3⟩ := g.half
  have HR0 : Hid (∀ W, Calls Tryz.prog 41 #[.agg #[.int .i64 n, .int .i64 t, .int .i64 q, .int .i64 b], .string l] W fun e w' => e = .returned (.bool o0) ∧ Up W w') := fun W => by
    rw [← h0]
    exact Layer_calls n t q b l W hl g.hn
  have HR1 : Hid (∀ W, Calls Tryz.prog 42 #[.agg #[.int .i64 n, .int .i64 t, .int .i64 q, .int .i64 b], .string x] W fun e w' => ∃ (z : Int) (p0 : Option Addr) (x0 y0 : Nat) (p1 : Option Addr) (x1 y1 : Nat), e = .returned (.tuple #[.agg #[.int .i64 z, .slice p0 x0 y0, .slice p1 x1 y1], .bool o1]) ∧ Up W w') := fun W => by
    rw [← h1]
    exact Read_any n t q b x W hx (by omega) (by omega) (by omega) (by omega) (by omega) hq2
  clear h0 h1
  rcases h with rfl | ⟨rfl, rfl⟩
  all_goals
    go_enter Tryz.func9, Tryz.ntmps9
    go_wp2_with fail
    refine (refGood_calls _ _ _ _ _).mono ?_
    rintro e w1 ⟨rfl, hu1⟩
    obtain ⟨hc, hf⟩ := bcell hu1
    go_wp2_with fail
    refine Calls.mono (HR0.out _) ?_
    rintro e w2 ⟨rfl, hu2⟩
    clear hc hf
    obtain ⟨hc, hf⟩ := bcell (hu1.trans hu2)
    go_wp2_with fail
    refine Calls.mono (HR1.out _) ?_
    rintro e w3 ⟨z, p0, x0, y0, p1, x1, y1, rfl, hu3⟩
    clear hc hf
    go_wp2_with fail
    go_ret2
    exact ⟨rfl, Up.alloc (((((Up.refl _).alloc _).trans hu1).trans hu2).trans hu3) _⟩

end Go.Proofs.YtcjhgbljhpflfabGreat

namespace Go.Proofs.YtcjhgbljhpflfabGreat
open Go.RowKit
set_option linter.unusedVariables false
set_option maxRecDepth 100000

set_option maxHeartbeats 4000000 in
theorem refLinear_late (n t L : Nat) (q b : Int) (l x s m k : ByteArray) (w : World) (hl : l.size ≤ maxLen) (hx : x.size ≤ maxLen) (hs : s.size ≤ maxLen) (hm : m.size ≤ maxLen) (hk : k.size ≤ maxLen) (g : NT n t) (hq : 2 ≤ q) (hq2 : q ≤ 1073741823) (hb : 1 ≤ b) (hb2 : b ≤ 8) (hL : DigOf q b L) (hg : goodB n t q b = true) (h0 : layB l.data.toList n t = true) (h1 : ctB x.data.toList n t q = true)
    (o0 o1 o2 : Bool) (v0 : okL s.data.toList n 2 t = o0) (v1 : okL m.data.toList n 2 t = o1) (v2 : tnB k.data.toList (2 * n * L) q = o2) (r : Int) (h : (o0 = false ∧ r = 3) ∨ (o0 = true ∧ o1 = false ∧ r = 3) ∨ (o0 = true ∧ o1 = true ∧ o2 = false ∧ r = 2)) :
    Calls Tryz.prog 9 #[.agg #[.int .i64 n, .int .i64 t, .int .i64 q, .int .i64 b], .string l, .string x, .string s, .string m, .string k] w fun e w' => e = .returned (.tuple #[.string ⟨#[]⟩, .int .i64 r]) ∧ Up w w' := by
  have ht := g.t3
  have ht2 := g.ht
  obtain ⟨hd1, hd2, hd3⟩ := g.half
  have HR0 : Hid (∀ W, Calls Tryz.prog 41 #[.agg #[.int .i64 n, .int .i64 t, .int .i64 q, .int .i64 b], .string l] W fun e w' => e = .returned (.bool true) ∧ Up W w') := fun W => by
    rw [← h0]
    exact Layer_calls n t q b l W hl g.hn
  have HR1 : Hid (∀ W, Calls Tryz.prog 42 #[.agg #[.int .i64 n, .int .i64 t, .int .i64 q, .int .i64 b], .string x] W fun e w' => ∃ (z : Int) (p0 : Option Addr) (x0 y0 : Nat) (p1 : Option Addr) (x1 y1 : Nat), e = .returned (.tuple #[.agg #[.int .i64 z, .slice p0 x0 y0, .slice p1 x1 y1], .bool true]) ∧ Up W w') := fun W => by
    rw [← h1]
    exact Read_any n t q b x W hx (by omega) (by omega) (by omega) (by omega) (by omega) hq2
  have HV0 : Hid (∀ W, Calls Tryz.prog 43 #[.agg #[.int .i64 n, .int .i64 t, .int .i64 q, .int .i64 b], .string s] W fun e w' => ∃ a x y, e = .returned (.tuple #[.slice a x y, .bool o0]) ∧ Up W w') := fun W => by
    rw [← v0]
    exact Values_any n t q b s W hs (by omega) (by omega)
  have HV1 : Hid (∀ W, Calls Tryz.prog 43 #[.agg #[.int .i64 n, .int .i64 t, .int .i64 q, .int .i64 b], .string m] W fun e w' => ∃ a x y, e = .returned (.tuple #[.slice a x y, .bool o1]) ∧ Up W w') := fun W => by
    rw [← v1]
    exact Values_any n t q b m W hm (by omega) (by omega)
  have HT : Hid (∀ W, Calls Tryz.prog 44 #[.agg #[.int .i64 n, .int .i64 t, .int .i64 q, .int .i64 b], .string k] W fun e w' => e = .returned (.bool o2) ∧ Up W w') := fun W => by
    rw [← v2]
    exact Turner_calls n L t q b k W hk (by omega) hq hq2 hb hb2 hL
  clear h0 h1 v0 v1 v2 hL
  rcases h with ⟨rfl, rfl⟩ | ⟨rfl, rfl, rfl⟩ | ⟨rfl, rfl, rfl, rfl⟩
  all_goals
    go_enter Tryz.func9, Tryz.ntmps9
    go_wp2_with fail
    refine (refGood_calls _ _ _ _ _).mono ?_
    rintro e w1 ⟨rfl, hu1⟩
    obtain ⟨hc, hf⟩ := bcell hu1
    go_wp2_with fail
    refine Calls.mono (HR0.out _) ?_
    rintro e w2 ⟨rfl, hu2⟩
    clear hc hf
    obtain ⟨hc, hf⟩ := bcell (hu1.trans hu2)
    go_wp2_with fail
    refine Calls.mono (HR1.out _) ?_
    rintro e w3 ⟨z, p0, x0, y0, p1, x1, y1, rfl, hu3⟩
    clear hc hf
    have hu3a := ((hu1.trans hu2).trans hu3).trans ((Up.refl _).alloc (.cells #[.int .i64 z, .slice p0 x0 y0, .slice p1 x1 y1] 98))
    obtain ⟨hc, hf⟩ := bcell hu3a
    go_wp2_with fail
    refine Calls.mono (HV0.out _) ?_
    rintro e w4 ⟨a4, x4, y4, rfl, hu4⟩
    clear hc hf
    obtain ⟨hc, hf⟩ := bcell (hu3a.trans hu4)
    go_wp2_with fail
    refine Calls.mono (HV1.out _) ?_
    rintro e w5 ⟨a5, x5, y5, rfl, hu5⟩
    clear hc hf
    obtain ⟨hc, hf⟩ := bcell ((hu3a.trans hu4).trans hu5)
    first
    | (go_wp2_with fail
       go_ret2
       exact ⟨rfl, ((((Up.refl _).alloc _).trans hu3a).trans hu4).trans hu5⟩)
    | (go_wp2_with fail
       refine Calls.mono (HT.out _) ?_
       rintro e w6 ⟨rfl, hu6⟩
       clear hc hf
       go_wp2_with fail
       go_ret2
       exact ⟨rfl, (((((Up.refl _).alloc _).trans hu3a).trans hu4).trans hu5).trans hu6⟩)

end Go.Proofs.YtcjhgbljhpflfabGreat

namespace Go.Proofs.YtcjhgbljhpflfabGreat
open Go.RowKit
set_option linter.unusedVariables false
set_option maxRecDepth 100000

theorem lessI_length (n : Nat) (xs ys : List Int) (t : Int) : (lessI n xs ys t).length = n := by simp [lessI]

theorem lessI_lt (n : Nat) (xs ys : List Int) (t : Int) (ht : 0 < t) : ∀ i, i < n → 0 ≤ (lessI n xs ys t).getD i 0 ∧ (lessI n xs ys t).getD i 0 < t := by
  intro i hi
  unfold lessI
  rw [getD_range hi]
  exact mod_bounds ht _

theorem diagL_length (n : Nat) (l : List UInt8) (i : Nat) : (diagL n l i).length = 4 * (n / 2) := by
  unfold diagL
  rw [List.length_append, textsL_length, dgI_length]
  omega

theorem all_bnd {xs : List Int} {n : Nat} {m M : Int} (hl : xs.length = n) (h : ∀ i, i < n → 0 ≤ xs.getD i 0 ∧ xs.getD i 0 < m) (hm : m ≤ M) (hM : 0 ≤ M) : ∀ i, 0 ≤ xs.getD i 0 ∧ xs.getD i 0 ≤ M := by
  intro i
  by_cases hi : i < n
  · have := h i hi
    omega
  · rw [getD_out xs i (by omega)]
    omega

theorem str_list (l : List UInt8) : (⟨l.toArray⟩ : ByteArray).data.toList = l := by simp
theorem str_size (l : List UInt8) : (⟨l.toArray⟩ : ByteArray).size = l.length := by simp [ByteArray.size]

set_option maxHeartbeats 8000000 in
theorem refLinear_ok (n t L : Nat) (q b : Int) (l x s m k : ByteArray) (w : World) (hl : l.size ≤ maxLen) (hx : x.size ≤ maxLen) (hs : s.size ≤ maxLen) (hm : m.size ≤ maxLen) (hk : k.size ≤ maxLen) (g : NT n t) (hq : 2 ≤ q) (hq2 : q ≤ 1073741823) (hb : 1 ≤ b) (hb2 : b ≤ 8) (hL : DigOf q b L) (hg : goodB n t q b = true) (h0 : layB l.data.toList n t = true) (h1 : ctB x.data.toList n t q = true)
    (v0 : okL s.data.toList n 2 t = true) (v1 : okL m.data.toList n 2 t = true) (v2 : tnB k.data.toList (2 * n * L) q = true) :
    Calls Tryz.prog 9 #[.agg #[.int .i64 n, .int .i64 t, .int .i64 q, .int .i64 b], .string l, .string x, .string s, .string m, .string k] w fun e w' => e = .returned (.tuple #[.string ⟨(linL n t q b L l.data.toList x.data.toList s.data.toList m.data.toList k.data.toList).1.toArray⟩, .int .i64 (linL n t q b L l.data.toList x.data.toList s.data.toList m.data.toList k.data.toList).2]) ∧ Up w w' := by
  have ht := g.t3
  have ht2 := g.ht
  obtain ⟨hd1, hd2, hd3⟩ := g.half
  have hm64 : (200 : Nat) ≤ maxLen := by decide
  have HR0 : Hid (∀ W, Calls Tryz.prog 41 #[.agg #[.int .i64 n, .int .i64 t, .int .i64 q, .int .i64 b], .string l] W fun e w' => e = .returned (.bool true) ∧ Up W w') := fun W => by
    rw [← h0]
    exact Layer_calls n t q b l W hl g.hn
  have HR1 : Hid (∀ W, Calls Tryz.prog 42 #[.agg #[.int .i64 n, .int .i64 t, .int .i64 q, .int .i64 b], .string x] W fun e w' => ∃ (z : Int) (p0 : Option Addr) (x0 y0 : Nat) (p1 : Option Addr) (x1 y1 : Nat), e = .returned (.tuple #[.agg #[.int .i64 z, .slice p0 x0 y0, .slice p1 x1 y1], .bool true]) ∧ Up W w') := fun W => by
    rw [← h1]
    exact Read_any n t q b x W hx (by omega) (by omega) (by omega) (by omega) (by omega) hq2
  have HT : Hid (∀ W, Calls Tryz.prog 44 #[.agg #[.int .i64 n, .int .i64 t, .int .i64 q, .int .i64 b], .string k] W fun e w' => e = .returned (.bool true) ∧ Up W w') := fun W => by
    rw [← v2]
    exact Turner_calls n L t q b k W hk (by omega) hq hq2 hb hb2 hL
  have HTu : Hid (∀ (c : List UInt8) W, c.length ≤ 200 → Calls Tryz.prog 47 #[.agg #[.int .i64 n, .int .i64 t, .int .i64 q, .int .i64 b], .string ⟨c.toArray⟩, .string k] W fun e w' => e = .returned (.tuple #[.string ⟨(turnA n t q b L c k.data.toList).1.toArray⟩, .int .i64 (turnA n t q b L c k.data.toList).2]) ∧ Up W w') := fun c W hc =>
    Turn_all n t L q b ⟨c.toArray⟩ k W (by rw [str_size]; omega) hk g hq hq2 hb hb2 hL hg v2
  have HMu : Hid (∀ (c v : List UInt8) W, c.length ≤ 200 → v.length ≤ 200 → Calls Tryz.prog 45 #[.agg #[.int .i64 n, .int .i64 t, .int .i64 q, .int .i64 b], .string ⟨c.toArray⟩, .string ⟨v.toArray⟩] W fun e w' => e = .returned (.tuple #[.string ⟨(mulA n t q c v).1.toArray⟩, .int .i64 (mulA n t q c v).2]) ∧ Up W w') := fun c v W hc hv =>
    MulPlain_all n t q b ⟨c.toArray⟩ ⟨v.toArray⟩ W (by rw [str_size]; omega) (by rw [str_size]; omega) g hq hq2 hg
  have HAd : Hid (∀ (c v : List UInt8) W, c.length ≤ 200 → v.length ≤ 200 → Calls Tryz.prog 48 #[.agg #[.int .i64 n, .int .i64 t, .int .i64 q, .int .i64 b], .string ⟨c.toArray⟩, .string ⟨v.toArray⟩] W fun e w' => e = .returned (.tuple #[.string ⟨(addA n t q c v).1.toArray⟩, .int .i64 (addA n t q c v).2]) ∧ Up W w') := fun c v W hc hv =>
    Add_all n t q b ⟨c.toArray⟩ ⟨v.toArray⟩ W (by rw [str_size]; omega) (by rw [str_size]; omega) g hq hq2 hg
  have HAp : Hid (∀ (c v : List UInt8) W, c.length ≤ 200 → v.length ≤ 200 → Calls Tryz.prog 49 #[.agg #[.int .i64 n, .int .i64 t, .int .i64 q, .int .i64 b], .string ⟨c.toArray⟩, .string ⟨v.toArray⟩] W fun e w' => e = .returned (.tuple #[.string ⟨(addPlainA n t q c v).1.toArray⟩, .int .i64 (addPlainA n t q c v).2]) ∧ Up W w') := fun c v W hc hv =>
    AddPlain_all n t q b ⟨c.toArray⟩ ⟨v.toArray⟩ W (by rw [str_size]; omega) (by rw [str_size]; omega) g hq hq2 hg
  have HDg : Hid (∀ i W, i ≤ 16 → Calls Tryz.prog 46 #[.agg #[.int .i64 n, .int .i64 t, .int .i64 q, .int .i64 b], .string l, .int .i64 (i : Nat)] W fun e w' => e = .returned (.string ⟨(diagL n l.data.toList i).toArray⟩) ∧ Up W w') := fun i W hi => diagonal_calls n i t q b l W hl (by omega) (by omega) hi
  have HDl : Hid (∀ i, (diagL n l.data.toList i).length ≤ 200) := fun i => by rw [diagL_length]; omega
  have HTl : Hid (∀ c, (turnA n t q b L c k.data.toList).1.length ≤ 200) := fun c => by have := turnA_len n t q b L c k.data.toList; omega
  have HMl : Hid (∀ c v, (mulA n t q c v).1.length ≤ 200) := fun c v => by have := mulA_len n t q c v; omega
  have HAl : Hid (∀ c v, (addA n t q c v).1.length ≤ 200) := fun c v => by have := addA_len n t q c v; omega
  have hxl : x.data.toList.length ≤ 200 := by have := ((ctB_iff _ _ _ _).1 h1).1; omega
  have HS0 : Hid (linS n t q b L l.data.toList k.data.toList x.data.toList 0 = (x.data.toList, (mulA n t q x.data.toList (diagL n l.data.toList 0)).1, (mulA n t q x.data.toList (diagL n l.data.toList 0)).2)) := rfl
  have HS1 : Hid (∀ i c a e, linS n t q b L l.data.toList k.data.toList x.data.toList i = (c, a, e) → linS n t q b L l.data.toList k.data.toList x.data.toList (i + 1) = linN n t q b L l.data.toList k.data.toList (i + 1) c a e) := fun i c a e h => by rw [linS, h]
  have HSt : Hid (∀ i, (linS n t q b L l.data.toList k.data.toList x.data.toList i).2.2 ≠ 0 → ∀ j, linS n t q b L l.data.toList k.data.toList x.data.toList (i + j) = linS n t q b L l.data.toList k.data.toList x.data.toList i) := fun i h j => linS_stuck _ _ _ _ _ _ _ _ i h j
  have HA : Hid (linL n t q b L l.data.toList x.data.toList s.data.toList m.data.toList k.data.toList = if (linS n t q b L l.data.toList k.data.toList x.data.toList (n / 2 - 1)).2.2 = 0 then addPlainA n t q (linS n t q b L l.data.toList k.data.toList x.data.toList (n / 2 - 1)).2.1 (textsL 2 (lessI n (appI n t l.data.toList (numsL s.data.toList 2 n)) (numsL m.data.toList 2 n) t)) else ([], 4)) := rfl
  generalize linL n t q b L l.data.toList x.data.toList s.data.toList m.data.toList k.data.toList = ans at HA
  generalize linS n t q b L l.data.toList k.data.toList x.data.toList = S at HS0 HS1 HSt HA
  have HB0 : Hid _ := numsL_lt s.data.toList 2 n t v0
  have HB1 : Hid _ := numsL_lt m.data.toList 2 n t v1
  have HL0 : Hid _ := numsL_length s.data.toList 2 n
  have HL1 : Hid _ := numsL_length m.data.toList 2 n
  have HD : Hid ((n : Int) / 2 = ((n / 2 : Nat) : Int)) := rfl
  go_enter Tryz.func9, Tryz.ntmps9
  go_wp2_with fail
  refine (refGood_calls _ _ _ _ _).mono ?_
  rintro e w1 ⟨rfl, hu1⟩
  obtain ⟨hc, hf⟩ := bcell hu1
  go_wp2_with fail
  refine Calls.mono (HR0.out _) ?_
  rintro e w2 ⟨rfl, hu2⟩
  clear hc hf
  obtain ⟨hc, hf⟩ := bcell (hu1.trans hu2)
  go_wp2_with fail
  refine Calls.mono (HR1.out _) ?_
  rintro e w3 ⟨z, p0, x0, y0, p1, x1, y1, rfl, hu3⟩
  clear hc hf
  have hu3a := ((hu1.trans hu2).trans hu3).trans ((Up.refl _).alloc (.cells #[.int .i64 z, .slice p0 x0 y0, .slice p1 x1 y1] 98))
  obtain ⟨hc, hf⟩ := bcell hu3a
  go_wp2_with fail
  refine (Values_ok n t q b s _ hs (by omega) v0).mono ?_
  rintro e w4 ⟨v4, rfl, ho4, hu4⟩
  obtain ⟨g4, c4, rfl, _, i4⟩ := ho4.is (ne_nil_of_length (numsL_length _ _ _) (by omega))
  rw [numsL_length]
  clear hc hf ho4
  obtain ⟨hc, hf⟩ := bcell (hu3a.trans hu4)
  go_wp2_with fail
  refine (Values_ok n t q b m _ hm (by omega) v1).mono ?_
  rintro e w5 ⟨v5, rfl, ho5, hu5⟩
  obtain ⟨g5, c5, rfl, _, i5⟩ := ho5.is (ne_nil_of_length (numsL_length _ _ _) (by omega))
  rw [numsL_length]
  have j4 := i4.up hu5
  clear hc hf ho5 i4
  have huP := (hu3a.trans hu4).trans hu5
  clear hu3a hu1 hu2 hu3 hu4 hu5
  obtain ⟨hc, hf⟩ := bcell huP
  go_wp2_with fail
  refine Calls.mono (HT.out _) ?_
  rintro e w6 ⟨rfl, hu6⟩
  clear hc hf
  have k4 := j4.up hu6
  have k5 := i5.up hu6
  have huQ := huP.trans hu6
  clear huP j4 i5 hu6
  generalize numsL s.data.toList 2 n = ss at k4 HB0 HL0 HA
  generalize numsL m.data.toList 2 n = ms at k5 HB1 HL1 HA
  obtain ⟨hc, hf⟩ := bcell huQ
  have hP0 : w6.cell? ⟨w.heap.size, 0, none⟩ = some (.int .i64 (n : Int)) := by rw [hc _ _ (by simp)]; simp
  have hP1 : w6.cell? ⟨w.heap.size, 1, none⟩ = some (.int .i64 (t : Int)) := by rw [hc _ _ (by simp)]; simp
  have hP2 : w6.cell? ⟨w.heap.size, 2, none⟩ = some (.int .i64 q) := by rw [hc _ _ (by simp)]; simp
  have hP3 : w6.cell? ⟨w.heap.size, 3, none⟩ = some (.int .i64 b) := by rw [hc _ _ (by simp)]; simp
  have HC : Hid _ := (⟨hP0, hP1, hP2, hP3⟩ : _ ∧ _ ∧ _ ∧ _)
  clear hc hf
  have HDz : Hid _ := fun W => HDg.out 0 W (by omega)
  have HMz : Hid (∀ W, Calls Tryz.prog 45 #[.agg #[.int .i64 n, .int .i64 t, .int .i64 q, .int .i64 b], .string x, .string ⟨(diagL n l.data.toList 0).toArray⟩] W fun e w' => e = .returned (.tuple #[.string ⟨(mulA n t q x.data.toList (diagL n l.data.toList 0)).1.toArray⟩, .int .i64 (mulA n t q x.data.toList (diagL n l.data.toList 0)).2]) ∧ Up W w') := fun W => HMu.out x.data.toList (diagL n l.data.toList 0) W hxl (HDl.out 0)
  have HMzl : Hid _ := HMl.out x.data.toList (diagL n l.data.toList 0)
  generalize mulA n t q x.data.toList (diagL n l.data.toList 0) = M0 at HS0 HMz HMzl
  generalize diagL n l.data.toList 0 = D0 at HDz HMz
  obtain ⟨a0, e0⟩ := M0
  go_wp2_with fail
  go_region_held3 (fun w' => w'.cell? ⟨w.heap.size, 0, none⟩ = some (.int .i64 (n : Int)) ∧ w'.cell? ⟨w.heap.size, 1, none⟩ = some (.int .i64 (t : Int)) ∧ w'.cell? ⟨w.heap.size, 2, none⟩ = some (.int .i64 q) ∧ w'.cell? ⟨w.heap.size, 3, none⟩ = some (.int .i64 b))
    (first | go_keep | exact keep4 hu8 (by assumption) | exact keep4 hu7 (by assumption))
    ((first | (go_at_call 46; refine Calls.mono (HDz.out _) ?_; rintro e w7 ⟨rfl, hu7⟩) | (go_at_call 45; refine Calls.mono (HMz.out _) ?_; rintro e w8 ⟨rfl, hu8⟩)))
  clear hP0 hP1 hP2 hP3 HDz HMz
  have hu68 : Up w6 w8 := Up.trans (Up.trans (Up.drew (Up.refl _)) hu7) hu8
  clear hu7 hu8
  go_wp2_with fail
  have hd8 : n / 2 ≤ 8 := by omega
  have hd2' : 2 ≤ n / 2 := by omega
  go_loopw [2, 20, 21, 22] (fun sc sa se si wr => ∃ (i : Nat) (c a : List UInt8) (e : Int), i < n / 2 ∧ si = .int .i64 (((i + 1 : Nat)) : Int) ∧ Hid (S i = (c, a, e)) ∧ sc = .string ⟨c.toArray⟩ ∧ sa = .string ⟨a.toArray⟩ ∧ se = .int .i64 e ∧ c.length ≤ 200 ∧ a.length ≤ 200 ∧ Up w6 wr) (fun _ _ _ si _ => n / 2 - (intOf si).toNat)
  case atStart => exact ⟨0, x.data.toList, a0, e0, by omega, rfl, HS0, rfl, rfl, rfl, hxl, HMzl.out, hu68⟩
  case round =>
    obtain ⟨i, c, a, e, hi, rfl, HSi, rfl, rfl, rfl, hcl, hal, hu⟩ := hrel
    clear HS0 HMzl hu68
    have hP0 := keepU hu HC.out.1
    have hP1 := keepU hu HC.out.2.1
    have hP2 := keepU hu HC.out.2.2.1
    have hP3 := keepU hu HC.out.2.2.2
    by_cases hgo : i + 1 < n / 2 ∧ e = 0
    · obtain ⟨hid, rfl⟩ := hgo
      have hlt : (i : Int) + 1 < (n : Int) / 2 := by omega
      have HNx : Hid _ := HS1.out i c a 0 HSi.out
      have HTc : Hid _ := fun W => HTu.out c W hcl
      have HTcl := HTl.out c
      unfold linN at HNx
      rw [if_pos rfl] at HNx
      generalize turnA n t q b L c k.data.toList = T1 at HNx HTc HTcl
      obtain ⟨c1, e1⟩ := T1
      go_wp2_with fail
      refine Calls.mono (HTc.out _) ?_
      rintro e w9 ⟨rfl, hu9⟩
      clear HTc
      have hQ0 := keepU hu9 hP0
      have hQ1 := keepU hu9 hP1
      have hQ2 := keepU hu9 hP2
      have hQ3 := keepU hu9 hP3
      clear hP0 hP1 hP2 hP3
      try dsimp only at HNx
      try dsimp only at HTcl
      by_cases he1 : e1 = 0
      · subst he1
        rw [if_pos rfl] at HNx
        have HDi : Hid (∀ W, Calls Tryz.prog 46 #[.agg #[.int .i64 n, .int .i64 t, .int .i64 q, .int .i64 b], .string l, .int .i64 ((i : Int) + 1)] W fun e w' => e = .returned (.string ⟨(diagL n l.data.toList (i + 1)).toArray⟩) ∧ Up W w') := fun W => HDg.out (i + 1) W (by omega)
        have HMi : Hid _ := fun W => HMu.out c1 (diagL n l.data.toList (i + 1)) W HTcl (HDl.out _)
        have HMl1 := HMl.out c1 (diagL n l.data.toList (i + 1))
        generalize mulA n t q c1 (diagL n l.data.toList (i + 1)) = M1 at HNx HMi HMl1
        generalize diagL n l.data.toList (i + 1) = D1 at HDi HMi
        obtain ⟨m1, e2⟩ := M1
        try dsimp only at HNx
        try dsimp only at HMl1
        go_wp2_with fail
        go_region_held3 (fun w' => w'.cell? ⟨w.heap.size, 0, none⟩ = some (.int .i64 (n : Int)) ∧ w'.cell? ⟨w.heap.size, 1, none⟩ = some (.int .i64 (t : Int)) ∧ w'.cell? ⟨w.heap.size, 2, none⟩ = some (.int .i64 q) ∧ w'.cell? ⟨w.heap.size, 3, none⟩ = some (.int .i64 b))
          (first | go_keep | exact keep4 hu11 (by assumption) | exact keep4 hu10 (by assumption))
          ((first | (go_at_call 46; refine Calls.mono (HDi.out _) ?_; rintro e w10 ⟨rfl, hu10⟩) | (go_at_call 45; refine Calls.mono (HMi.out _) ?_; rintro e w11 ⟨rfl, hu11⟩)))
        have huX : Up w9 w11 := Up.trans (Up.trans (Up.drew (Up.refl _)) hu10) hu11
        clear hu10 hu11 HDi HMi
        have hR0 := keepU huX hQ0
        have hR1 := keepU huX hQ1
        have hR2 := keepU huX hQ2
        have hR3 := keepU huX hQ3
        clear hQ0 hQ1 hQ2 hQ3
        by_cases he2 : e2 = 0
        · subst he2
          rw [if_pos rfl] at HNx
          have HAi : Hid _ := fun W => HAd.out a m1 W hal HMl1
          have HAl1 := HAl.out a m1
          generalize addA n t q a m1 = Z at HNx HAi HAl1
          obtain ⟨z1, e3⟩ := Z
          try dsimp only at HNx
          try dsimp only at HAl1
          go_wp2_with fail
          refine Calls.mono (HAi.out _) ?_
          rintro e w12 ⟨rfl, hu12⟩
          clear hR0 hR1 hR2 hR3 HAi
          go_wp2_with fail
          go_roundw
          case rel => exact ⟨i + 1, c1, z1, e3, hid, by go_num, HNx, rfl, rfl, rfl, HTcl, HAl1, ((hu.trans hu9).trans huX).trans hu12⟩
          case measure => simp [intOf]; omega
        · rw [if_neg he2] at HNx
          have hn2 : (e2 == 0) = false := beq_eq_false_iff_ne.2 he2
          clear hR0 hR1 hR2 hR3
          go_wp2_with fail
          go_roundw
          case rel => exact ⟨i + 1, c1, a, e2, hid, by go_num, HNx, rfl, rfl, rfl, HTcl, hal, (hu.trans hu9).trans huX⟩
          case measure => simp [intOf]; omega
      · rw [if_neg he1] at HNx
        have hn1 : (e1 == 0) = false := beq_eq_false_iff_ne.2 he1
        clear hQ0 hQ1 hQ2 hQ3
        go_wp2_with fail
        go_roundw
        case rel => exact ⟨i + 1, c1, a, e1, hid, by go_num, HNx, rfl, rfl, rfl, HTcl, hal, hu.trans hu9⟩
        case measure => simp [intOf]; omega
    · have HF : Hid (S (n / 2 - 1) = (c, a, e)) := show _ = _ by
        by_cases hid : i + 1 < n / 2
        · have hne : e ≠ 0 := fun h => hgo ⟨hid, h⟩
          have h2 := HSt.out i (by rw [HSi.out]; exact hne) (n / 2 - 1 - i)
          rw [show i + (n / 2 - 1 - i) = n / 2 - 1 by omega, HSi.out] at h2
          exact h2
        · rw [show n / 2 - 1 = i by omega]
          exact HSi.out
      rw [HF.out] at HA
      try dsimp only at HA
      clear HF HSi HS1 HSt
      by_cases he : e = 0
      · subst he
        have hid : ¬ i + 1 < n / 2 := fun h => hgo ⟨h, rfl⟩
        have hlt : ¬ (i : Int) + 1 < (n : Int) / 2 := by omega
        rw [if_pos rfl] at HA
        clear hgo hid
        have q4 := k4.up hu
        have q5 := k5.up hu
        have HB2 : Hid _ := all_bnd HL0.out HB0.out (show (t : Int) ≤ 65536 by omega) (by omega)
        have HB3 : Hid _ := all_bnd HL1.out HB1.out (show (t : Int) ≤ 4294967296 by omega) (by omega)
        have HB4 : Hid _ := all_bnd (appI_length n t l.data.toList ss) (appI_lt n t l.data.toList ss (by omega)) (show (t : Int) ≤ 4294967296 by omega) (by omega)
        have HAi : Hid (∀ W, Calls Tryz.prog 49 #[.agg #[.int .i64 n, .int .i64 t, .int .i64 q, .int .i64 b], .string ⟨a.toArray⟩, .string ⟨(textsL 2 (lessI n (appI n t l.data.toList ss) ms t)).toArray⟩] W fun e w' => e = .returned (.tuple #[.string ⟨ans.1.toArray⟩, .int .i64 ans.2]) ∧ Up W w') := fun W => by
          rw [HA.out]
          exact HAp.out a _ W hal (by rw [textsL_length, lessI_length]; omega)
        have HTx : Hid (∀ gx cx W, IsI W gx (lessI n (appI n t l.data.toList ss) ms t) → Calls Tryz.prog 50 #[.slice (some ⟨gx, 0, none⟩) n cx, .int .i64 2] W fun e w' => e = .returned (.string ⟨(textsL 2 (lessI n (appI n t l.data.toList ss) ms t)).toArray⟩) ∧ Up W w') := fun gx cx W hi => by
          have h2 := lessI_lt n (appI n t l.data.toList ss) ms t (by omega)
          have := Texts_calls (lessI n (appI n t l.data.toList ss) ms t) gx cx 2 W (by omega) (by rw [lessI_length]; omega) (fun i hi => by rw [lessI_length] at hi; have := h2 i hi; omega) hi
          rw [lessI_length] at this
          exact this
        go_wp2_with fail
        go_region_held3 (fun w' => w'.cell? ⟨w.heap.size, 0, none⟩ = some (.int .i64 (n : Int)) ∧ w'.cell? ⟨w.heap.size, 1, none⟩ = some (.int .i64 (t : Int)) ∧ w'.cell? ⟨w.heap.size, 2, none⟩ = some (.int .i64 q) ∧ w'.cell? ⟨w.heap.size, 3, none⟩ = some (.int .i64 b))
          (first | go_keep | exact keep4 hu13 (by assumption) | exact keep4 hu12 (by assumption) | exact keep4 hu11 (by assumption) | exact keep4 hu10 (by assumption))
          ((first | (go_at_call 52; refine (Applied_calls n t q b l ss g4 c4 _ hl g.hn (by omega) ht2 HL0.out HB2.out (by exact q4.up (Up.drew (Up.refl _)))).mono ?_; rintro e w10 ⟨v10, rfl, ho10, hu10⟩; obtain ⟨g10, c10, rfl, _, i10⟩ := ho10.is (ne_nil_of_length (appI_length _ _ _ _) (by omega)); rw [appI_length]) | (go_at_call 51; refine (Less_calls n _ ms g10 g5 c10 c5 t _ (by omega) (appI_length _ _ _ _) HL1.out (by omega) (by omega) (fun i => by have := HB4.out i; omega) (fun i => by have := HB3.out i; omega) i10 (by exact (q5.up (Up.drew (Up.refl _))).up hu10)).mono ?_; rintro e w11 ⟨v11, rfl, ho11, hu11⟩; obtain ⟨g11, c11, rfl, _, i11⟩ := ho11.is (ne_nil_of_length (lessI_length _ _ _ _) (by omega)); rw [lessI_length]) | (go_at_call 50; refine Calls.mono (HTx.out _ _ _ i11) ?_; rintro e w12 ⟨rfl, hu12⟩) | (go_at_call 49; refine Calls.mono (HAi.out _) ?_; rintro e w13 ⟨rfl, hu13⟩)))
        have huX : Up wr w13 := Up.trans (Up.trans (Up.trans (Up.trans (Up.drew (Up.refl _)) hu10) hu11) hu12) hu13
        clear hP0 hP1 hP2 hP3 ho10 ho11 i10 i11 hu10 hu11 hu12 hu13
        go_wp2_with fail
        go_ret2
        exact ⟨rfl, ((((Up.refl _).alloc _).trans huQ).trans hu).trans huX⟩
      · rw [if_neg he] at HA
        have hn1 : (e == 0) = false := beq_eq_false_iff_ne.2 he
        have hn2 : (e != 0) = true := bne_iff_ne.2 he
        have HE : Hid (ans = ([], 4)) := HA
        clear HA hgo
        by_cases hid : i + 1 < n / 2
        · have hlt : (i : Int) + 1 < (n : Int) / 2 := by omega
          clear hid
          go_wp2_with fail
          go_ret2
          exact ⟨by rw [HE.out]; rfl, (((Up.refl _).alloc _).trans huQ).trans hu⟩
        · have hlt : ¬ (i : Int) + 1 < (n : Int) / 2 := by omega
          clear hid
          go_wp2_with fail
          go_ret2
          exact ⟨by rw [HE.out]; rfl, (((Up.refl _).alloc _).trans huQ).trans hu⟩

end Go.Proofs.YtcjhgbljhpflfabGreat
