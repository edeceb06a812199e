/-
  Proved: for every case (parameters, whatever numbers they are, and the draws of a key), every row of layers, every text as values, every row of draws and every draws of a turning key, the law Whole answers true: a session led from its beginning to its end keeps at every step what the document promises of it, and its output is what the net answers in the plain. No condition.
-/
import Derived.Test.YtcjhgbljhpflfabGreatKeepWh
import Derived.Test.YtcjhgbljhpflfabGreatKeepWhb
import Derived.Test.YtcjhgbljhpflfabGreatKeepWhc
import Derived.Test.YtcjhgbljhpflfabGreatKeepCase
import Derived.SliceStrings
namespace Go.Proofs.YtcjhgbljhpflfabGreat
open Go.ChangeShapes Go.WideShapes Go.ChangeAt Go.RowKit Go.Joins
open Go.ChangeMaps (open_string shut_string)

theorem Whole.own : ownKnob Tryz.prog.godebug = none := by kernel_rfl
theorem Whole.laidOut : laidOutB Tryz.prog = true := by kernel_rfl

theorem Whole_calls (n t q b : Int) (d : ByteArray) (st : Option Addr) (k c : Nat) (inp tu : ByteArray) (ds : Option Addr) (kd cd : Nat) (f : Nat → ByteArray) (w : World) (hd : d.size ≤ maxLen) (hn : -9223372036854775808 ≤ n) (hn2 : n ≤ 9223372036854775807) (hinp : inp.size ≤ maxLen) (htu : tu.size ≤ maxLen) (hk : k ≤ 9223372036854775807) (hkd : kd ≤ 9223372036854775807)
    (hraw : ∀ i, i < k → ∃ (sb so : Nat) (bd : Bool) (sh : Int) (ms bs : ByteArray), st = some ⟨sb, so, none⟩ ∧ -9223372036854775808 ≤ sh ∧ sh ≤ 9223372036854775807 ∧ ms.size ≤ maxLen ∧ bs.size ≤ maxLen ∧ w.cell? ⟨sb, so + i * 4, none⟩ = some (.bool bd) ∧ w.cell? ⟨sb, so + i * 4 + 1, none⟩ = some (.int .i64 sh) ∧ w.cell? ⟨sb, so + i * 4 + 2, none⟩ = some (.string ms) ∧ w.cell? ⟨sb, so + i * 4 + 3, none⟩ = some (.string bs)) (hdr : DrawsAt w w.heap.size ds kd f) :
    Calls Tryz.prog 5 #[.agg #[.int .i64 n, .int .i64 t, .int .i64 q, .int .i64 b, .string d], .slice st k c, .string inp, .slice ds kd cd, .string tu] w fun e w' => e = .returned (.bool true) ∧ Up w w' := by
  by_cases h3 : 3 < k
  · exact Whole_many n t q b d st k c inp tu ds kd cd f w hd hn hn2 hinp htu hk hkd hraw hdr h3
  · by_cases h0 : k = 0
    · exact Whole_none n t q b d st k c inp tu ds kd cd f w hd hn hn2 hinp htu hk hkd hraw hdr h0
    · exact Whole_few n t q b d st k c inp tu ds kd cd f w hd hn hn2 hinp htu hk hkd hraw hdr (by omega)

set_option maxRecDepth 100000 in
/-- the cells of one layer -/
theorem open_lay {H : Type} {enc : TypeId × Value → H} {w : World} {base : Nat} {spare : Nat → Bool} {held : Bool} {fuel : Nat} {cs : List Value} {x : DataW H × List MemPlace}
    (h : DataW.trod enc Tryz.prog w base spare held fuel 58 cs = some x) (hl : cs.length = 4) :
    ∃ (bd : Bool) (sh : Int) (ms bs : ByteArray), cs = [.bool bd, .int .i64 sh, .string ms, .string bs] ∧ -9223372036854775808 ≤ sh ∧ sh ≤ 9223372036854775807 ∧ ms.size ≤ maxLen ∧ bs.size ≤ maxLen := by
  match cs, hl with
  | [c0, c1, c2, c3], _ =>
    obtain ⟨z0, z1, z2, z3, m, _, _, k0, k1, k2, k3⟩ := trod_struct4 Tryz.underlying58 h
    obtain ⟨a0, e0, _⟩ := DataW.trod_bool Tryz.underlying4 k0
    obtain ⟨a1, e1, _, w1⟩ := DataW.trod_int Tryz.underlying3 k1
    obtain ⟨a2, e2, _, h2⟩ := DataW.trod_string Tryz.underlying9 k2
    obtain ⟨a3, e3, _, h3⟩ := DataW.trod_string Tryz.underlying9 k3
    simp [cells_i, cells_s, cells_b] at e0 e1 e2 e3
    subst e0 e1 e2 e3
    exact ⟨a0, a1, a2, a3, rfl, (wf_bounds w1).1, (wf_bounds w1).2, h2, h3⟩

set_option maxRecDepth 100000 in
/-- a row of layers as an argument: its cells, where it has one -/
theorem open_lays {H : Type} {enc : TypeId × Value → H} {w : World} {base : Nat} {spare : Nat → Bool} {held : Bool} {r : Reach} {b0 : Nat} {v : Value} {d : DataW H} {p : List MemPlace}
    (hv : Value.okWide Tryz.prog w r b0 49 v) (h : DataW.Trod enc Tryz.prog w base spare held 49 v d p) :
    ∃ (st : Option Addr) (k c : Nat), v = .slice st k c ∧ k ≤ 9223372036854775807 ∧ ∀ i, i < k → ∃ (sb so : Nat) (bd : Bool) (sh : Int) (ms bs : ByteArray), st = some ⟨sb, so, none⟩ ∧ -9223372036854775808 ≤ sh ∧ sh ≤ 9223372036854775807 ∧ ms.size ≤ maxLen ∧ bs.size ≤ maxLen ∧ w.cell? ⟨sb, so + i * 4, none⟩ = some (.bool bd) ∧ w.cell? ⟨sb, so + i * 4 + 1, none⟩ = some (.int .i64 sh) ∧ w.cell? ⟨sb, so + i * 4 + 2, none⟩ = some (.string ms) ∧ w.cell? ⟨sb, so + i * 4 + 3, none⟩ = some (.string bs) := by
  obtain ⟨a0, k, c, rfl⟩ := okWide_slice Tryz.underlying49 hv
  obtain ⟨fuel, hf⟩ := h
  rcases DataW.trod_slice Tryz.underlying49 hf with ⟨e, _⟩ | ⟨a, len, cap, elems, rest, m, _, e, hx, hb, hl, hm, hlen, hel, _, _⟩
  · simp [Value.cells] at e
    obtain ⟨rfl, rfl, rfl⟩ := e
    exact ⟨_, _, _, rfl, by omega, fun i hi => absurd hi (by omega)⟩
  · simp [Value.cells] at e
    obtain ⟨rfl, rfl, rfl⟩ := e
    refine ⟨_, _, _, rfl, by unfold maxLen at hm; omega, fun i hi => ?_⟩
    have h1 := hel i hi
    rw [cells_layer, List.getElem?_eq_getElem (by omega), Option.bind_eq_some_iff] at h1
    obtain ⟨cs, hcs, hy⟩ := h1
    obtain ⟨_, hln, hc⟩ := World.cells?_some hcs
    obtain ⟨bd, sh, ms, bs, rfl, hsh, hsh2, hms, hbs⟩ := open_lay hy hln
    obtain ⟨sb, so, spot⟩ := a
    have hspot : spot = none := by
      have h2 := hel 0 (by omega)
      rw [cells_layer, List.getElem?_eq_getElem (by omega), Option.bind_eq_some_iff] at h2
      obtain ⟨cs2, hcs2, hy2⟩ := h2
      obtain ⟨_, hln2, hc2⟩ := World.cells?_some hcs2
      obtain ⟨bd2, _, _, _, rfl, _⟩ := open_lay hy2 hln2
      have hc0 : w.cell? (((⟨sb, so, spot⟩ : Addr).add (0 * 4)).add 0) = some (.bool bd2) := hc2 0 (by omega)
      simpa [Addr.add] using World.cell?_spot hc0
    subst hspot
    have hcj : ∀ j, j < 4 → w.cell? ⟨sb, so + i * 4 + j, none⟩ = [Value.bool bd, .int .i64 sh, .string ms, .string bs][j]? := by
      intro j hj
      rw [← Go.WideShapes.add_plain, ← Go.WideShapes.add_plain]
      exact hc j hj
    exact ⟨sb, so, bd, sh, ms, bs, rfl, hsh, hsh2, hms, hbs, hcj 0 (by omega), hcj 1 (by omega), hcj 2 (by omega), hcj 3 (by omega)⟩

set_option maxRecDepth 100000 in
/-- a row of draws as an argument -/
theorem open_draws {H : Type} {enc : TypeId × Value → H} {w : World} {base : Nat} {spare : Nat → Bool} {held : Bool} {r : Reach} {b0 : Nat} {v : Value} {d : DataW H} {p : List MemPlace}
    (hv : Value.okWide Tryz.prog w r b0 50 v) (h : DataW.Trod enc Tryz.prog w base spare held 50 v d p) :
    ∃ (st : Option Addr) (k c : Nat) (f : Nat → ByteArray), v = .slice st k c ∧ k ≤ 9223372036854775807 ∧ DrawsAt w w.heap.size st k f := by
  obtain ⟨a0, k, c, rfl⟩ := okWide_slice Tryz.underlying50 hv
  obtain ⟨fuel, hf⟩ := h
  rcases Go.ChangeShapes.open_strings Tryz.underlying50 Tryz.underlying9 cells_s hf with ⟨e, _⟩ | ⟨a, len, cap, ss, e, _, hlc, hmax, hsl, _, hcell, hsz⟩
  · simp [Value.cells] at e
    obtain ⟨rfl, rfl, rfl⟩ := e
    exact ⟨_, _, _, fun _ => ⟨#[]⟩, rfl, by omega, ⟨fun _ => Nat.zero_le _, fun _ _ => rfl, fun i hi => absurd hi (by omega)⟩⟩
  · simp [Value.cells] at e
    obtain ⟨rfl, rfl, rfl⟩ := e
    have hlen : k ≤ ss.length := by rw [hsl]; split <;> omega
    refine ⟨_, _, _, fun i => if i < k then ss.getD i ByteArray.empty else ⟨#[]⟩, rfl, by unfold maxLen at hmax; omega, ⟨fun i => ?_, fun i hi => if_neg (by omega), fun i hi => ?_⟩⟩
    · by_cases hi : i < k
      · have hi2 : i < ss.length := by omega
        show (if i < k then ss.getD i ByteArray.empty else ⟨#[]⟩).size ≤ _
        rw [if_pos hi]
        have e : ss.getD i ByteArray.empty = ss[i] := by simp [List.getD, hi2]
        rw [e]
        exact hsz _ (List.getElem_mem hi2)
      · show (if i < k then ss.getD i ByteArray.empty else ⟨#[]⟩).size ≤ _
        rw [if_neg hi]
        exact Nat.zero_le _
    · obtain ⟨db, o, spot⟩ := a
      have hspot : spot = none := by simpa [Addr.add] using World.cell?_spot (hcell 0 (by omega))
      subst hspot
      have hc : w.cell? ⟨db, o + i, none⟩ = some (.string (ss.getD i ByteArray.empty)) := by rw [← Go.WideShapes.add_plain]; exact hcell i (by omega)
      refine ⟨db, o, rfl, World.block_lt_of_cell? w _ hc, ?_⟩
      show _ = some (Value.string (if i < k then ss.getD i ByteArray.empty else ⟨#[]⟩))
      rw [if_pos hi]
      exact hc

set_option maxRecDepth 100000 in
theorem Whole_lifted (os : Os) (started : os.Started) (H : Type) (enc : TypeId × Value → H) :
    ReturnsInHanded {} Tryz.checked os 5 .any (Rows.wholeSpec.pre6 enc Tryz.prog Tryz.f5 Rows.wholeRow.domain false) (Rows.wholeSpec.post enc Tryz.prog Tryz.f5 false true false false) := by
  refine returnsInHanded_of_change (C := Tryz.checked) Whole.own started (by kernel_rfl) Tryz.func5
    (ChangeSpec.witness6 (enc := enc) (C := Tryz.checked) false ⟨#[], #[.agg #[.int .i64 0, .int .i64 0, .int .i64 0, .int .i64 0, .string .empty], .slice none 0 0, .string .empty, .slice none 0 0, .string .empty], []⟩ 8 (by kernel_rfl) (by kernel_rfl) (by kernel_rfl) (by kernel_rfl)) ?_
  intro W base args ds gs before hval0 hW _ _
  have hval : ∀ (j : Nat) t v, Tryz.f5.params[j]? = some t → args[j]? = some v → Value.okWide Tryz.prog W .any base t v := hval0
  have hW' := hW
  obtain ⟨p, q, hA0, hV, rfl, _, _⟩ := hW
  have hA : DataW.TrodAll enc Tryz.prog W 0 (fun _ => true) true Tryz.f5.params.toList args.toList ds p := hA0
  rw [Tryz.params5] at hA hval
  obtain ⟨v0, v1, v2, v3, v4, d0, d1, d2, d3, d4, p0, p1, p2, p3, p4, rfl, rfl, rfl, h0, h1, h2, h3, h4⟩ := trodAll_five hA
  obtain ⟨rfl, rfl⟩ := trodVars_none hV
  have k0 := h0
  have lt0 : ∀ x ∈ p0, x.block < W.heap.size := by obtain ⟨m, hm⟩ := k0; exact DataW.trod_lt m _ _ _ hm
  have k1 := h1
  have lt1 : ∀ x ∈ p1, x.block < W.heap.size := by obtain ⟨m, hm⟩ := k1; exact DataW.trod_lt m _ _ _ hm
  have k3 := h3
  have lt3 : ∀ x ∈ p3, x.block < W.heap.size := by obtain ⟨m, hm⟩ := k3; exact DataW.trod_lt m _ _ _ hm
  obtain ⟨n, t, q, b, s, rfl, hn, hn2, hs⟩ := open_case (hval 0 48 v0 rfl rfl) h0
  obtain ⟨st, k, c, rfl, hk, hst⟩ := open_lays (hval 1 49 v1 rfl rfl) h1
  obtain ⟨a2, rfl, rfl, rfl, g2⟩ := open_string Tryz.underlying9 (hval 2 9 v2 rfl rfl) h2
  obtain ⟨ds, kd, cd, f, rfl, hkd, hdr⟩ := open_draws (hval 3 50 v3 rfl rfl) h3
  obtain ⟨a4, rfl, rfl, rfl, g4⟩ := open_string Tryz.underlying9 (hval 4 9 v4 rfl rfl) h4
  clear hA0 hval0
  refine (Whole_calls n t q b s st k c a2 a4 ds kd cd f W hs hn hn2 g2 g4 hk hkd hst hdr).mono fun e W' ⟨he, bel⟩ => ?_
  subst he
  exact ⟨_, rfl, _, _, _, [], _, [], hW', trodAll_mk1 (shut_bool Tryz.underlying4 _), trodAll_cons_mk (Below.trod Whole.laidOut (by kernel_rfl) (of_decide_eq_true (by kernel_rfl)) k0 bel lt0) (trodAll_mk4 (Below.trod Whole.laidOut (by kernel_rfl) (of_decide_eq_true (by kernel_rfl)) k1 bel lt1) (shut_string Tryz.underlying9 g2) (Below.trod Whole.laidOut (by kernel_rfl) (of_decide_eq_true (by kernel_rfl)) k3 bel lt3) (shut_string Tryz.underlying9 g4)), rfl, bel.frame _, fun h => by cases h⟩

theorem Whole_holds : Rows.WholeSaid :=
  OpenClaim.holds_of_wide 5 Tryz.f5 rfl rfl rfl rfl rfl rfl rfl ⟨rfl, rfl, rfl, rfl, rfl⟩ rfl rfl rfl rfl rfl (by kernel_rfl) Tryz.func5 (by kernel_rfl)
    (of_decide_eq_true (by kernel_rfl)) (by unfold Func.isWrapper; first | (rw [if_pos (by decide +kernel)]; kernel_rfl) | (rw [if_neg (by decide +kernel)]; exact ⟨rfl, rfl⟩))
    (fun os started H enc _ => Whole_lifted os started H enc)

#print axioms Whole_holds
end Go.Proofs.YtcjhgbljhpflfabGreat
