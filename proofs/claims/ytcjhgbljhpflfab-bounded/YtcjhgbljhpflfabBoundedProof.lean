/-
  Proved: for every case (parameters, whatever numbers they are, and the draws of a key), every text as values, every draws, every draws of a turning key and every row of steps, the law Bounded answers true: behind the steps (turns, products, sums) the true noise is at most what Bound tells, until ErrNoise comes; of what is hidden it is at most 2. No condition.
-/
import Derived.Test.YtcjhgbljhpflfabKeepBd
import Derived.Test.YtcjhgbljhpflfabKeepCase
namespace Go.Proofs.Ytcjhgbljhpflfab
open Go.ChangeShapes Go.WideShapes Go.ChangeAt Go.RowKit Go.Joins
open Go.ChangeMaps (open_string shut_string)

theorem Bounded.own : ownKnob Try.prog.godebug = none := by kernel_rfl
theorem Bounded.laidOut : laidOutB Try.prog = true := by kernel_rfl

set_option maxRecDepth 100000 in
/-- a row of numbers as an argument: its cells, where it has one -/
theorem open_steps {H : Type} {enc : TypeId × Value → H} {w : World} {base : Nat} {spare : Nat → Bool} {held : Bool} {r : Reach} {b0 : Nat} {v : Value} {d : DataW H} {p : List MemPlace}
    (hv : Value.okWide Try.prog w r b0 26 v) (h : DataW.Trod enc Try.prog w base spare held 26 v d p) :
    ∃ (st : Option Addr) (k c : Nat), v = .slice st k c ∧ k ≤ 9223372036854775807 ∧ ∀ i, i < k → ∃ (sb so : Nat) (z : Int), st = some ⟨sb, so, none⟩ ∧ -9223372036854775808 ≤ z ∧ z ≤ 9223372036854775807 ∧ w.cell? ⟨sb, so + i, none⟩ = some (.int .i64 z) := by
  obtain ⟨a0, k, c, rfl⟩ := okWide_slice Try.underlying26 hv
  obtain ⟨fuel, hf⟩ := h
  rcases open_ints Try.underlying26 Try.underlying3 cells_i hf with ⟨e, _⟩ | ⟨a, k', c', zs, e, _, hkc, hmax, hzl, _, hcell, hwf⟩
  · simp [Value.cells] at e
    obtain ⟨rfl, rfl, rfl⟩ := e
    exact ⟨_, _, _, rfl, by omega, fun i hi => absurd hi (by omega)⟩
  · simp [Value.cells] at e
    obtain ⟨rfl, rfl, rfl⟩ := e
    refine ⟨_, _, _, rfl, by unfold maxLen at hmax; omega, fun i hi => ?_⟩
    have hi2 : i < zs.length := by rw [hzl]; split <;> omega
    obtain ⟨sb, so, rfl, hc⟩ := Go.ints_at hcell (by omega)
    have hw := wf_bounds (hwf (zs.getD i 0) (by
      have e : zs.getD i 0 = zs[i] := by simp [List.getD, hi2]
      rw [e]
      exact List.getElem_mem hi2))
    exact ⟨sb, so, zs.getD i 0, rfl, hw.1, hw.2, hc i hi2⟩

set_option maxRecDepth 100000 in
theorem Bounded_lifted (os : Os) (started : os.Started) (H : Type) (enc : TypeId × Value → H) :
    ReturnsInHanded {} Try.checked os 3 .any (Rows.boundedSpec.pre6 enc Try.prog Try.f3 Rows.boundedRow.domain false) (Rows.boundedSpec.post enc Try.prog Try.f3 false true false false) := by
  refine returnsInHanded_of_change (C := Try.checked) Bounded.own started (by kernel_rfl) Try.func3
    (ChangeSpec.witness6 (enc := enc) (C := Try.checked) false ⟨#[], #[.agg #[.int .i64 0, .int .i64 0, .int .i64 0, .int .i64 0, .string .empty], .string .empty, .string .empty, .string .empty, .slice none 0 0], []⟩ 8 (by kernel_rfl) (by kernel_rfl) (by kernel_rfl) (by kernel_rfl)) ?_
  intro W base args ds gs before hval0 hW _ _
  have hval : ∀ (j : Nat) t v, Try.f3.params[j]? = some t → args[j]? = some v → Value.okWide Try.prog W .any base t v := hval0
  have hW' := hW
  obtain ⟨p, q, hA0, hV, rfl, _, _⟩ := hW
  have hA : DataW.TrodAll enc Try.prog W 0 (fun _ => true) true Try.f3.params.toList args.toList ds p := hA0
  rw [Try.params3] at hA hval
  obtain ⟨v0, v1, v2, v3, v4, d0, d1, d2, d3, d4, p0, p1, p2, p3, p4, rfl, rfl, rfl, h0, h1, h2, h3, h4⟩ := trodAll_five hA
  obtain ⟨rfl, rfl⟩ := trodVars_none hV
  have k0 := h0
  have lt0 : ∀ x ∈ p0, x.block < W.heap.size := by obtain ⟨m, hm⟩ := k0; exact DataW.trod_lt m _ _ _ hm
  have k4 := h4
  have lt4 : ∀ x ∈ p4, x.block < W.heap.size := by obtain ⟨m, hm⟩ := k4; exact DataW.trod_lt m _ _ _ hm
  obtain ⟨n, t, q, b, s, rfl, hn, hn2, hs⟩ := open_case (hval 0 25 v0 rfl rfl) h0
  obtain ⟨v, rfl, rfl, rfl, hv⟩ := open_string Try.underlying9 (hval 1 9 v1 rfl rfl) h1
  obtain ⟨y, rfl, rfl, rfl, hy⟩ := open_string Try.underlying9 (hval 2 9 v2 rfl rfl) h2
  obtain ⟨x, rfl, rfl, rfl, hx⟩ := open_string Try.underlying9 (hval 3 9 v3 rfl rfl) h3
  obtain ⟨st, k, c, rfl, hk, hst⟩ := open_steps (hval 4 26 v4 rfl rfl) h4
  clear hA0 hval0
  refine (Bounded_calls n t q b s v y x st k c W hs hv hy hx hn hn2 hk hst).mono fun e W' ⟨he, bel⟩ => ?_
  subst he
  exact ⟨_, rfl, _, _, _, [], _, [], hW', trodAll_mk1 (shut_bool Try.underlying4 _), trodAll_cons_mk (Below.trod Bounded.laidOut (by kernel_rfl) (of_decide_eq_true (by kernel_rfl)) k0 bel lt0) (trodAll_mk4 (shut_string Try.underlying9 hv) (shut_string Try.underlying9 hy) (shut_string Try.underlying9 hx) (Below.trod Bounded.laidOut (by kernel_rfl) (of_decide_eq_true (by kernel_rfl)) k4 bel lt4)), rfl, bel.frame _, fun h => by cases h⟩

theorem Bounded_holds : Rows.BoundedSaid :=
  OpenClaim.holds_of_wide 3 Try.f3 rfl rfl rfl rfl rfl rfl rfl ⟨rfl, rfl, rfl, rfl, rfl⟩ rfl rfl rfl rfl rfl (by kernel_rfl) Try.func3 (by kernel_rfl)
    (of_decide_eq_true (by kernel_rfl)) (by unfold Func.isWrapper; first | (rw [if_pos (by decide +kernel)]; kernel_rfl) | (rw [if_neg (by decide +kernel)]; exact ⟨rfl, rfl⟩))
    (fun os started H enc _ => Bounded_lifted os started H enc)

#print axioms Bounded_holds
end Go.Proofs.Ytcjhgbljhpflfab
