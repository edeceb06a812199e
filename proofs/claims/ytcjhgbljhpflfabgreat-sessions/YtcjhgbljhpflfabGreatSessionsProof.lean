/-
  Proved: for every row of operations on sessions, whatever they are, the law Sessions answers true: a session answers just what the document asks, whatever sessions are led side by side and in whatever order. No condition.
-/
import Derived.Test.YtcjhgbljhpflfabGreatLawSessions
import Derived.ProofKit
import Derived.OpenShut
import Derived.SizedLaws
import Derived.Lib.SmallJoins
namespace Go.Proofs.YtcjhgbljhpflfabGreat
open Go.ChangeShapes Go.WideShapes Go.ChangeAt Go.RowKit Go.Joins
open Go.ChangeMaps (open_string shut_string)

theorem Sessions.own : ownKnob Tryz.prog.godebug = none := by kernel_rfl
theorem Sessions.laidOut : laidOutB Tryz.prog = true := by kernel_rfl
theorem Sessions.cellsOp : Tryz.prog.cellsOf 37 = 11 := by kernel_rfl
theorem Sessions.cellsPar : Tryz.prog.cellsOf 23 = 4 := by kernel_rfl
theorem Sessions.cellsI : Tryz.prog.cellsOf 3 = 1 := by kernel_rfl
theorem Sessions.cellsS : Tryz.prog.cellsOf 9 = 1 := by kernel_rfl
theorem Sessions.bytesOp : Tryz.prog.bytesOf 37 = 128 := by kernel_rfl

theorem Sessions.wf {n : Int} (h : (Lit.int .i64 n).wf = true) : -9223372036854775808 ≤ n ∧ n ≤ 9223372036854775807 := by
  simp [Lit.wf, IntKind.min, IntKind.max, IntKind.signed, IntKind.bits] at h
  omega

theorem list11 {α : Type} {cs : List α} (h : cs.length = 11) : ∃ c0 c1 c2 c3 c4 c5 c6 c7 c8 c9 c10, cs = [c0, c1, c2, c3, c4, c5, c6, c7, c8, c9, c10] := by
  match cs, h with
  | [c0, c1, c2, c3, c4, c5, c6, c7, c8, c9, c10], _ => exact ⟨c0, c1, c2, c3, c4, c5, c6, c7, c8, c9, c10, rfl⟩

theorem list8 {α : Type} {cs : List α} (h : cs.length = 8) : ∃ c0 c1 c2 c3 c4 c5 c6 c7, cs = [c0, c1, c2, c3, c4, c5, c6, c7] := by
  match cs, h with
  | [c0, c1, c2, c3, c4, c5, c6, c7], _ => exact ⟨c0, c1, c2, c3, c4, c5, c6, c7, rfl⟩

set_option maxRecDepth 100000 in
/-- the cells of one operation -/
theorem open_op {H : Type} {enc : TypeId × Value → H} {w : World} {base : Nat} {spare : Nat → Bool} {held : Bool} {fuel : Nat} {cs : List Value} {x : DataW H × List MemPlace}
    (h : DataW.trod enc Tryz.prog w base spare held fuel 37 cs = some x) :
    ∃ (kd ss n t q b : Int) (net key turn input d : ByteArray), cs = [.int .i64 kd, .int .i64 ss, .int .i64 n, .int .i64 t, .int .i64 q, .int .i64 b, .string net, .string key, .string turn, .string input, .string d] ∧ (-9223372036854775808 ≤ ss ∧ ss ≤ 9223372036854775807) ∧ net.size ≤ maxLen ∧ key.size ≤ maxLen ∧ turn.size ≤ maxLen ∧ input.size ≤ maxLen ∧ d.size ≤ maxLen := by
  obtain ⟨xs, m, _, _, hl, hlen, hf⟩ := DataW.trod_struct Tryz.underlying37 h
  obtain ⟨c0, c1, c2, c3, c4, c5, c6, c7, c8, c9, c10, rfl⟩ := list11 (hl.trans Sessions.cellsOp)
  obtain ⟨y0, y1, y2, y3, y4, y5, y6, y7, rfl⟩ := list8 hlen
  have h0 := hf 0 _ rfl
  have h1 := hf 1 _ rfl
  have h2 := hf 2 _ rfl
  have h3 := hf 3 _ rfl
  have h4 := hf 4 _ rfl
  have h5 := hf 5 _ rfl
  have h6 := hf 6 _ rfl
  have h7 := hf 7 _ rfl
  clear hf
  simp [Sessions.cellsI, Sessions.cellsS, Sessions.cellsPar] at h0 h1 h2 h3 h4 h5 h6 h7
  obtain ⟨kd, e0, _, _⟩ := DataW.trod_int Tryz.underlying3 h0
  obtain ⟨ss, e1, _, hss⟩ := DataW.trod_int Tryz.underlying3 h1
  obtain ⟨z0, z1, z2, z3, m2, _, _, k0, k1, k2, k3⟩ := trod_struct4 Tryz.underlying23 h2
  obtain ⟨a0, e2, _, _⟩ := DataW.trod_int Tryz.underlying3 k0
  obtain ⟨a1, e3, _, _⟩ := DataW.trod_int Tryz.underlying3 k1
  obtain ⟨a2, e4, _, _⟩ := DataW.trod_int Tryz.underlying3 k2
  obtain ⟨a3, e5, _, _⟩ := DataW.trod_int Tryz.underlying3 k3
  obtain ⟨s6, e6, _, z6⟩ := DataW.trod_string Tryz.underlying9 h3
  obtain ⟨s7, e7, _, z7⟩ := DataW.trod_string Tryz.underlying9 h4
  obtain ⟨s8, e8, _, z8⟩ := DataW.trod_string Tryz.underlying9 h5
  obtain ⟨s9, e9, _, z9⟩ := DataW.trod_string Tryz.underlying9 h6
  obtain ⟨s10, e10, _, z10⟩ := DataW.trod_string Tryz.underlying9 h7
  simp [Sessions.cellsI] at e0 e1 e2 e3 e4 e5 e6 e7 e8 e9 e10
  subst e0 e1 e2 e3 e4 e5 e6 e7 e8 e9 e10
  exact ⟨kd, ss, a0, a1, a2, a3, s6, s7, s8, s9, s10, rfl, Sessions.wf hss, z6, z7, z8, z9, z10⟩

set_option maxRecDepth 100000 in
/-- a row of operations as an argument: its cells, where it has one; how many there are -/
theorem open_ops {H : Type} {enc : TypeId × Value → H} {w : World} {base : Nat} {spare : Nat → Bool} {held : Bool} {r : Reach} {b0 : Nat} {v : Value} {d : DataW H} {p : List MemPlace}
    (hv : Value.okWide Tryz.prog w r b0 34 v) (h : DataW.Trod enc Tryz.prog w base spare held 34 v d p)
    (hz : (DataW.weightsEach Tryz.prog [34] [d]).all (· ≤ reachBytes) = true) :
    ∃ (st : Option Addr) (k c : Nat), v = .slice st k c ∧ k ≤ 1099511627776 ∧ ∀ i, i < k → ∃ (sb so : Nat) (kd ss n t q b : Int) (net key turn input d : ByteArray), st = some ⟨sb, so, none⟩ ∧ (-9223372036854775808 ≤ ss ∧ ss ≤ 9223372036854775807) ∧ net.size ≤ maxLen ∧ key.size ≤ maxLen ∧ turn.size ≤ maxLen ∧ input.size ≤ maxLen ∧ d.size ≤ maxLen ∧ w.cell? ⟨sb, so + i * 11, none⟩ = some (.int .i64 kd) ∧ w.cell? ⟨sb, so + i * 11 + 1, none⟩ = some (.int .i64 ss) ∧ w.cell? ⟨sb, so + i * 11 + 2, none⟩ = some (.int .i64 n) ∧ w.cell? ⟨sb, so + i * 11 + 3, none⟩ = some (.int .i64 t) ∧ w.cell? ⟨sb, so + i * 11 + 4, none⟩ = some (.int .i64 q) ∧ w.cell? ⟨sb, so + i * 11 + 5, none⟩ = some (.int .i64 b) ∧ w.cell? ⟨sb, so + i * 11 + 6, none⟩ = some (.string net) ∧ w.cell? ⟨sb, so + i * 11 + 7, none⟩ = some (.string key) ∧ w.cell? ⟨sb, so + i * 11 + 8, none⟩ = some (.string turn) ∧ w.cell? ⟨sb, so + i * 11 + 9, none⟩ = some (.string input) ∧ w.cell? ⟨sb, so + i * 11 + 10, none⟩ = some (.string d) := by
  obtain ⟨a0, k, c, rfl⟩ := okWide_slice Tryz.underlying34 hv
  obtain ⟨fuel, hf⟩ := h
  rcases DataW.trod_slice Tryz.underlying34 hf with ⟨e, _⟩ | ⟨a, len, cap, elems, rest, m, _, e, hx, hb, hl, hm, hlen, hel, _, _⟩
  · simp [Value.cells] at e
    obtain ⟨rfl, rfl, rfl⟩ := e
    exact ⟨_, _, _, rfl, by omega, fun i hi => absurd hi (by omega)⟩
  · simp [Value.cells] at e
    obtain ⟨rfl, rfl, rfl⟩ := e
    have hd : d = .slice (elems.map (·.1)) (rest.map (·.1)) := congrArg Prod.fst hx
    have hw := sized_slice hz (j := 0) (t := 34) rfl (by rw [hd]; rfl) Tryz.underlying34
    rw [Sessions.bytesOp, List.length_map, List.length_map, hlen] at hw
    have hr := reachBytes_lt
    refine ⟨_, _, _, rfl, by omega, fun i hi => ?_⟩
    have h1 := hel i hi
    rw [Sessions.cellsOp, List.getElem?_eq_getElem (by omega), Option.bind_eq_some_iff] at h1
    obtain ⟨cs, hcs, hy⟩ := h1
    obtain ⟨kd, ss, n, t, q, b, net, key, turn, input, d, rfl, hss, z6, z7, z8, z9, z10⟩ := open_op hy
    obtain ⟨_, _, hc⟩ := World.cells?_some hcs
    obtain ⟨sb, so, spot⟩ := a
    have hspot : spot = none := by
      have h2 := hel 0 (by omega)
      rw [Sessions.cellsOp, List.getElem?_eq_getElem (by omega), Option.bind_eq_some_iff] at h2
      obtain ⟨cs2, hcs2, hy2⟩ := h2
      obtain ⟨kd2, _, _, _, _, _, _, _, _, _, _, rfl, _⟩ := open_op hy2
      have hc0 : w.cell? (((⟨sb, so, spot⟩ : Addr).add (0 * 11)).add 0) = some (.int .i64 kd2) := (World.cells?_some hcs2).2.2 0 (by omega)
      simpa [Addr.add] using World.cell?_spot hc0
    subst hspot
    have hcj : ∀ j, j < 11 → w.cell? ⟨sb, so + i * 11 + j, none⟩ = [Value.int .i64 kd, .int .i64 ss, .int .i64 n, .int .i64 t, .int .i64 q, .int .i64 b, .string net, .string key, .string turn, .string input, .string d][j]? := by
      intro j hj
      rw [← Go.WideShapes.add_plain, ← Go.WideShapes.add_plain]
      exact hc j hj
    refine ⟨sb, so, kd, ss, n, t, q, b, net, key, turn, input, d, rfl, hss, z6, z7, z8, z9, z10, ?_, ?_, ?_, ?_, ?_, ?_, ?_, ?_, ?_, ?_, ?_⟩
    · exact hcj 0 (by omega)
    · exact hcj 1 (by omega)
    · exact hcj 2 (by omega)
    · exact hcj 3 (by omega)
    · exact hcj 4 (by omega)
    · exact hcj 5 (by omega)
    · exact hcj 6 (by omega)
    · exact hcj 7 (by omega)
    · exact hcj 8 (by omega)
    · exact hcj 9 (by omega)
    · exact hcj 10 (by omega)

set_option maxRecDepth 100000 in
theorem Sessions_lifted (os : Os) (started : os.Started) (H : Type) (enc : TypeId × Value → H) :
    ReturnsInHanded {} Tryz.checked os 4 .any (Rows.sessionsSpec.pre6 enc Tryz.prog Tryz.f4 Rows.sessionsRow.domain false) (Rows.sessionsSpec.post enc Tryz.prog Tryz.f4 false true false false) := by
  refine returnsInHanded_of_change_sized (C := Tryz.checked) Sessions.own started (by kernel_rfl) Tryz.func4
    (ChangeSpec.witness6 (enc := enc) (C := Tryz.checked) false ⟨#[], #[.slice none 0 0], []⟩ 8 (by kernel_rfl) (by kernel_rfl) (by kernel_rfl) (by kernel_rfl)) ?_
  intro W base args ds gs before hval0 hW _ hz0 _
  have hval : ∀ (j : Nat) t v, Tryz.f4.params[j]? = some t → args[j]? = some v → Value.okWide Tryz.prog W .any base t v := hval0
  have hz1 : (DataW.weightsEach Tryz.prog (Tryz.f4.params.toList ++ []) (ds ++ gs)).all (· ≤ reachBytes) = true := hz0
  have hW' := hW
  obtain ⟨p, q, hA0, hV, rfl, _, _⟩ := hW
  have hA : DataW.TrodAll enc Tryz.prog W 0 (fun _ => true) true Tryz.f4.params.toList args.toList ds p := hA0
  rw [Tryz.params4] at hA hval hz1
  obtain ⟨v0, d0, rfl, rfl, h0⟩ := trodAll_one hA
  obtain ⟨rfl, rfl⟩ := trodVars_none hV
  have k0 := h0
  have lt0 : ∀ x ∈ p, x.block < W.heap.size := by obtain ⟨m, hm⟩ := k0; exact DataW.trod_lt m _ _ _ hm
  obtain ⟨st, k, c, rfl, hk, hst⟩ := open_ops (hval 0 34 v0 rfl rfl) h0 hz1
  clear hA0 hval0 hz0 hz1
  refine (Sessions_calls st k c W hk hst).mono fun e W' ⟨he, bel⟩ => ?_
  subst he
  exact ⟨_, rfl, _, _, _, [], _, [], hW', trodAll_mk1 (shut_bool Tryz.underlying4 _), trodAll_mk1 (Below.trod Sessions.laidOut (by kernel_rfl) (of_decide_eq_true (by kernel_rfl)) k0 bel lt0), rfl, bel.frame _, fun h => by cases h⟩

theorem Sessions_holds : Rows.SessionsSaid :=
  OpenClaim.holds_of_wide 4 Tryz.f4 rfl rfl rfl rfl rfl rfl rfl ⟨rfl, rfl, rfl, rfl, rfl⟩ rfl rfl rfl rfl rfl (by kernel_rfl) Tryz.func4 (by kernel_rfl)
    (of_decide_eq_true (by kernel_rfl)) (by unfold Func.isWrapper; first | (rw [if_pos (by decide +kernel)]; kernel_rfl) | (rw [if_neg (by decide +kernel)]; exact ⟨rfl, rfl⟩))
    (fun os started H enc _ => Sessions_lifted os started H enc)

#print axioms Sessions_holds
end Go.Proofs.YtcjhgbljhpflfabGreat
