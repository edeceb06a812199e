/-
  Sessions of the program and of the reference, side by side; what a step on one leaves of the others.
  A step on both sides.
  The statement Sessions: what is done on a session.
  The statement Sessions: Shares, Output, nothing; New.
  The statement Sessions: made, begins.
  The statement Sessions: begins.
  Many sessions side by side.
-/
import Derived.Test.YtcjhgbljhpflfabGreatWalksSd
import Derived.Test.YtcjhgbljhpflfabGreatLawOpen
namespace Go.Proofs.YtcjhgbljhpflfabGreat
open Go.RowKit
set_option linter.unusedVariables false
set_option maxRecDepth 100000

/-- a session on both sides -/
structure Pr where
  X : Nat
  R : Nat
  D : Dat
  ds : List ByteArray
  net : ByteArray
  key : ByteArray
  turn : ByteArray
  input : ByteArray
  vd : Value

abbrev Pr.s0 (p : Pr) : St := St.begin p.D.n p.input.data.toList
abbrev Pr.st (p : Pr) : St := playN p.D p.s0 p.ds p.ds.length

structure PairAt (w : World) (B : Nat) (p : Pr) : Prop where
  O : p.D.Ok
  I : p.D.Is p.net p.key p.turn
  hin : okL p.input.data.toList p.D.n 2 p.D.t = true
  hdn : Done p.D p.s0 p.ds
  S : SessAt w p.X p.D (p.ds.length / 4) (p.ds.length % 4) p.st
  C : RC w p.R p.D.n p.D.t p.D.q p.D.b p.net p.key p.turn p.input p.vd
  own : OwnS w p.vd p.ds
  h0 : p.ds = [] → p.vd = .slice none 0 0
  bX : B ≤ p.X
  bR : B ≤ p.R
  bD : ∀ g, p.vd.ownBlock = some g → B ≤ g

theorem SessAt.sc {w : World} {X : Nat} {D : Dat} {j r : Nat} {s : St} (h : SessAt w X D j r s) : ∃ p x y vt vr nx vc vs v0 v1 v2, SC w X D.n D.t D.q D.b (.slice p x y) vt vr nx vc vs v0 v1 v2 := by
  obtain ⟨gk, ck, H2, cap2, gs2, caps2, HN, o, capN, gc, cc, gv, cv, v0, v1, v2, h1, _⟩ := h
  exact ⟨_, _, _, _, _, _, _, _, _, _, _, h1⟩

/-- a session's blocks begin with a number, then numbers, a list behind them -/
theorem SessAt.keep {S : Nat → Prop} {w w' : World} {X : Nat} {D : Dat} {j r : Nat} {s : St} (h : SessAt w X D j r s) (O : D.Ok) (m : Mut S w w') (hX : ¬ S X)
    (hI : ∀ g xs, IsI w g xs → IsI w' g xs) (hH : ∀ H p x y, w.cell? ⟨H, 0, none⟩ = some (.slice p x y) → ¬ S H) (hB : ∀ H f, w.cell? ⟨H, 0, none⟩ = some (.bool f) → ¬ S H) : SessAt w' X D j r s := by
  obtain ⟨gk, ck, H2, cap2, gs2, caps2, HN, o, capN, gc, cc, gv, cv, v0, v1, v2, h1, h2, h3, h4, h5, h6, h7, h8, h9⟩ := h
  have hd := half_pos O.nt
  have hR : ∀ {H k l : Nat} {gs caps : Nat → Nat} {P : Nat → List Int}, RowsAt w H k l gs caps P → 0 < k → RowsAt w' H k l gs caps P := fun {H k l gs caps P} hr hk =>
    ⟨Nat.lt_of_lt_of_le hr.lt m.size, fun i hi => m.cell (hr.head i hi) (hH _ _ _ _ (hr.head 0 hk)), fun i hi => hI _ _ (hr.row i hi)⟩
  refine ⟨gk, ck, H2, cap2, gs2, caps2, HN, o, capN, gc, cc, gv, cv, v0, v1, v2, h1.mut m hX, h2, h3, hI _ _ h4, hR h5 O.L1, ⟨Nat.lt_of_lt_of_le h6.lt m.size, fun i hi => ?_⟩, hI _ _ h7, hI _ _ h8, fun hr => ?_⟩
  · obtain ⟨a0, a1, a2, a3, c0, c1, c2, c3, H, cap, gs, caps, gb, cb, e0, e1, e2, e3, hRr, ib⟩ := h6.lay i hi
    obtain ⟨b0, b1, b2, b3, d0, d1, d2, d3, H', cap', gs', caps', gb', cb', f0, _⟩ := h6.lay 0 (by have := O.N1; omega)
    have hne : ¬ S HN := hB HN _ (by rw [f0] at d0; exact d0)
    exact ⟨a0, a1, a2, a3, m.cell c0 hne, m.cell c1 hne, m.cell c2 hne, m.cell c3 hne, H, cap, gs, caps, gb, cb, e0, e1, e2, e3, hR hRr hd, hI _ _ ib⟩
  · obtain ⟨g0, c0, g1, c1, e0, e1, e2, i0, i1⟩ := h9 hr
    exact ⟨g0, c0, g1, c1, e0, e1, e2, hI _ _ i0, hI _ _ i1⟩

/-- a step of another session of the program -/
theorem SessAt.other {w w' : World} {X X' : Nat} {D D' : Dat} {j r j' r' j2 r2 : Nat} {s s' s2 : St} (h : SessAt w X D j r s) (O : D.Ok) (m : Mut (fun k => k = X') w w') (hX : X ≠ X') (a : SessAt w X' D' j' r' s') (a' : SessAt w' X' D' j2 r2 s2) : SessAt w' X D j r s := by
  obtain ⟨p, x, y, vt, vr, nx, vc, vs, v0, v1, v2, h1⟩ := a.sc
  obtain ⟨p', x', y', vt', vr', nx', vc', vs', v0', v1', v2', h1'⟩ := a'.sc
  refine h.keep O m hX (fun g xs hi => hi.sess m h1 h1') (fun H p x y hc e => ?_) (fun H f hc e => ?_)
  · subst e
    rw [h1.c0] at hc
    cases hc
  · subst e
    rw [h1.c0] at hc
    cases hc

theorem RC.other {w w' : World} {R X n t : Nat} {q b : Int} {net key turn input : ByteArray} {vd : Value} {D' : Dat} {j' r' : Nat} {s' : St} (h : RC w R n t q b net key turn input vd) (m : Mut (fun k => k = X) w w') (a : SessAt w X D' j' r' s') : RC w' R n t q b net key turn input vd := by
  obtain ⟨p, x, y, vt, vr, nx, vc, vs, v0, v1, v2, h1⟩ := a.sc
  refine h.mut m fun e => ?_
  subst e
  have := h.c4
  rw [h1.c4] at this
  cases this

theorem OwnS.mut {S : Nat → Prop} {w w' : World} {v : Value} {ds : List ByteArray} (h : OwnS w v ds) (m : Mut S w w') (hn : ∀ g, v.ownBlock = some g → ¬ S g) : OwnS w' v ds := by
  refine ⟨h.1, ?_⟩
  rcases h.2 with h2 | ⟨g, cap, cur, rfl, h4, h5, h6⟩
  · exact Or.inl h2
  · exact Or.inr ⟨g, cap, cur, rfl, h4, by rw [m.block g (Array.getElem?_eq_some_iff.1 h5).1 (hn g rfl)]; exact h5, h6⟩

theorem OwnS.head {w : World} {v : Value} {ds : List ByteArray} {g : Nat} (h : OwnS w v ds) (h0 : ds = [] → v = .slice none 0 0) (hg : v.ownBlock = some g) : ∃ d, w.cell? ⟨g, 0, none⟩ = some (.string d) := by
  rcases h.2 with ⟨rfl, _⟩ | ⟨g', cap, cur, rfl, _⟩
  · cases hg
  · simp only [Value.ownBlock, Option.some.injEq] at hg
    subst hg
    cases ds with
    | nil => have := h0 rfl; cases this
    | cons d ds => exact ⟨_, OwnS.cell h 0 (by simp)⟩

theorem OwnS.other {w w' : World} {X : Nat} {v : Value} {ds : List ByteArray} {D' : Dat} {j' r' : Nat} {s' : St} (h : OwnS w v ds) (h0 : ds = [] → v = .slice none 0 0) (m : Mut (fun k => k = X) w w') (a : SessAt w X D' j' r' s') : OwnS w' v ds := by
  obtain ⟨p, x, y, vt, vr, nx, vc, vs, v0, v1, v2, h1⟩ := a.sc
  refine h.mut m fun g hg e => ?_
  subst e
  obtain ⟨d, hd⟩ := h.head h0 hg
  rw [h1.c0] at hd
  cases hd

/-- a step of the reference -/
theorem SessAt.ref {w w' : World} {X R : Nat} {D : Dat} {j r n t : Nat} {q b : Int} {net key turn input : ByteArray} {vd vd' : Value} {ds : List ByteArray} {s : St} (h : SessAt w X D j r s) (O : D.Ok) (m : Mut (RS R vd) w w') (c : RC w R n t q b net key turn input vd) (c' : RC w' R n t q b net key turn input vd') (ho : OwnS w vd ds) (h0 : ds = [] → vd = .slice none 0 0) : SessAt w' X D j r s := by
  obtain ⟨p, x, y, vt, vr, nx, vc, vs, v0, v1, v2, h1⟩ := h.sc
  have hD : ∀ g u, w.cell? ⟨g, 0, none⟩ = some u → (∀ d, u ≠ .string d) → ¬ some g = vd.ownBlock := by
    intro g u hc hu e
    obtain ⟨d, hd⟩ := ho.head h0 e.symm
    rw [hc] at hd
    exact hu d (Option.some.inj hd)
  refine h.keep O m ?_ (fun g xs hi => ?_) (fun H p x y hc e => ?_) (fun H f hc e => ?_)
  · rintro (rfl | e)
    · have := c.c4
      rw [h1.c4] at this
      cases this
    · exact hD X _ h1.c0 (fun d e => by cases e) e
  · refine ⟨Nat.lt_of_lt_of_le hi.1 m.size, fun i hlt => ?_⟩
    have hc0 := hi.2 i hlt
    by_cases e : g = R
    · subst e
      by_cases h4 : 4 < xs.length
      · have := hi.2 4 h4
        rw [c.c4] at this
        cases this
      · match i, hc0, hlt with
        | 0, hc, _ => rw [c.c0] at hc; rw [c'.c0]; exact hc
        | 1, hc, _ => rw [c.c1] at hc; rw [c'.c1]; exact hc
        | 2, hc, _ => rw [c.c2] at hc; rw [c'.c2]; exact hc
        | 3, hc, _ => rw [c.c3] at hc; rw [c'.c3]; exact hc
        | i + 4, _, hlt => omega
    · refine m.cell hc0 ?_
      rintro (e2 | e2)
      · exact e e2
      · exact hD g _ (hi.2 0 (by omega)) (fun d e => by cases e) e2
  · rcases e with rfl | e
    · rw [c.c0] at hc
      cases hc
    · exact hD H _ hc (fun d e => by cases e) e
  · rcases e with rfl | e
    · rw [c.c0] at hc
      cases hc
    · exact hD H _ hc (fun d e => by cases e) e

theorem PairAt.up {w w' : World} {B : Nat} {p : Pr} (h : PairAt w B p) (hu : Up w w') : PairAt w' B p :=
  ⟨h.O, h.I, h.hin, h.hdn, h.S.up hu, h.C.up hu, row_up h.own hu, h.h0, h.bX, h.bR, h.bD⟩

/-- two sessions that have no block in common -/
structure Far (p p' : Pr) : Prop where
  X : p.X ≠ p'.X
  R : p.R ≠ p'.R
  D : ∀ g, p.vd.ownBlock = some g → p'.vd.ownBlock ≠ some g

theorem Far.symm {p p' : Pr} (h : Far p p') : Far p' p := ⟨fun e => h.X e.symm, fun e => h.R e.symm, fun g e c => h.D g c e⟩

/-- what a step of p, on both sides, leaves of another -/
theorem PairAt.other {w w1 w' : World} {B : Nat} {p a a' : Pr} (h : PairAt w B p) (ha : PairAt w B a) (hf : Far p a) (m1 : Mut (fun k => k = a.X) w w1) (e1 : ∃ j r s, SessAt w1 a.X a.D j r s) (m2 : Mut (RS a.R a.vd) w1 w') (c2 : ∃ vd', RC w' a.R a.D.n a.D.t a.D.q a.D.b a.net a.key a.turn a.input vd') : PairAt w' B p := by
  obtain ⟨j1, r1, s1, e1⟩ := e1
  obtain ⟨vd', c2⟩ := c2
  have S1 := h.S.other h.O m1 hf.X ha.S e1
  have C1 := h.C.other m1 ha.S
  have O1 := h.own.other h.h0 m1 ha.S
  have aC1 := ha.C.other m1 ha.S
  have aO1 := ha.own.other ha.h0 m1 ha.S
  refine ⟨h.O, h.I, h.hin, h.hdn, S1.ref h.O m2 aC1 c2 aO1 ha.h0, C1.mut m2 ?_, O1.mut m2 ?_, h.h0, h.bX, h.bR, h.bD⟩
  · rintro (e | e)
    · exact hf.R e
    · obtain ⟨d, hd⟩ := aO1.head ha.h0 e.symm
      rw [C1.c0] at hd
      cases hd
  · rintro g hg (e | e)
    · subst e
      obtain ⟨d, hd⟩ := O1.head h.h0 hg
      rw [aC1.c0] at hd
      cases hd
    · exact hf.D g hg e.symm

end Go.Proofs.YtcjhgbljhpflfabGreat

namespace Go.Proofs.YtcjhgbljhpflfabGreat
open Go.RowKit
set_option linter.unusedVariables false
set_option maxRecDepth 100000

theorem sent_ok {D : Dat} (O : D.Ok) {s : St} (hs : s.Ok D 0) (d : List UInt8) : (s.sent D d).Ok D 1 :=
  ⟨hs.lc, hs.ls, hs.bc, hs.bs, fun _ => (hide_told D.n D.t D.q D.key s.cl d O.nt O.q1 O.q2 O.fit).1⟩

theorem answered_ok {D : Dat} (O : D.Ok) {s : St} (hs : s.Ok D 1) (j : Nat) (d : List UInt8) (hz : ctB (linS1 D j s d).1 D.n D.t D.q = true) : (s.answered D j d).Ok D 2 :=
  ⟨hs.lc, maskI_length _ _ _, hs.bc, maskI_lt _ _ _ (by have := O.nt.t3; omega), fun _ => hz⟩

theorem opened_ok {D : Dat} (O : D.Ok) {s : St} (hs : s.Ok D 2) : (s.opened D).Ok D 3 :=
  ⟨decI_length _ _ _, hs.ls, decI_lt O.nt _, hs.bs, fun c => by omega⟩

theorem bent_ok {D : Dat} (O : D.Ok) {s : St} (hs : s.Ok D 3) (j : Nat) (d : List UInt8) : (s.bent D j d).Ok D 0 :=
  ⟨lessI_length _ _ _ _, maskI_length _ _ _, lessI_lt _ _ _ _ (by have := O.nt.t3; omega), maskI_lt _ _ _ (by have := O.nt.t3; omega), fun c => by omega⟩

theorem Done.snoc {D : Dat} {s0 : St} {ds : List ByteArray} (h : Done D s0 ds) (d : ByteArray) (hd : d.size ≤ maxLen) (hj : ds.length / 4 < D.N) (hz : ds.length % 4 = 1 → (linS1 D (ds.length / 4) (playN D s0 ds ds.length) d.data.toList).2 = 0) (hok : (nextS D ds.length (playN D s0 ds ds.length) d.data.toList).Ok D ((ds.length + 1) % 4)) : Done D s0 (ds ++ [d]) := by
  have gl : (ds ++ [d]).length = ds.length + 1 := by simp
  have gd : ∀ k, k < ds.length → (ds ++ [d]).getD k ⟨#[]⟩ = ds.getD k ⟨#[]⟩ := fun k hk => by rw [List.getD_eq_getElem?_getD, List.getD_eq_getElem?_getD, List.getElem?_append_left hk]
  have ge : (ds ++ [d]).getD ds.length ⟨#[]⟩ = d := by simp
  refine ⟨fun k hk => ?_, fun k hk => ?_, fun k hk hr => ?_, fun k hk => ?_⟩
  · rw [gl] at hk
    by_cases e : k = ds.length + 1
    · subst e
      rw [playN_last]
      exact hok
    · rw [playN_snoc D s0 ds d k (by omega)]
      exact h.ok k (by omega)
  · rw [gl] at hk
    by_cases e : k = ds.length
    · subst e; exact hj
    · exact h.lay k (by omega)
  · rw [gl] at hk
    rw [playN_snoc D s0 ds d k (by omega)]
    by_cases e : k = ds.length
    · subst e
      rw [ge]
      exact hz hr
    · rw [gd k (by omega)]
      exact h.fit k (by omega) hr
  · rw [gl] at hk
    by_cases e : k = ds.length
    · subst e
      rw [ge]
      exact hd
    · rw [gd k (by omega)]
      exact h.len k (by omega)

/-- what a step says -/
def outL (D : Dat) (k : Nat) (s : St) (d : List UInt8) : List UInt8 := if 1 < k % 4 then [] else (nextS D k s d).y

/-- why a step is refused -/
def Refused (p : Pr) (d : ByteArray) (e : Int) : Prop := (e = 5 ∧ p.D.N ≤ p.ds.length / 4) ∨ (e = 4 ∧ p.ds.length / 4 < p.D.N ∧ p.ds.length % 4 = 1 ∧ (linS1 p.D (p.ds.length / 4) p.st d.data.toList).2 = 4)

/-- what a step must meet -/
structure Went (p : Pr) (d : ByteArray) : Prop where
  lay : p.ds.length / 4 < p.D.N
  fit : p.ds.length % 4 = 1 → (linS1 p.D (p.ds.length / 4) p.st d.data.toList).2 = 0
  done : Done p.D p.s0 (p.ds ++ [d])

theorem prog_step (w : World) (B : Nat) (p : Pr) (d : ByteArray) (hd : d.size ≤ maxLen) (h : PairAt w B p) :
    Calls Tryz.prog 29 #[.pointer (some ⟨p.X, 0, none⟩), .string d] w fun r w1 => Mut (fun k => k = p.X) w w1 ∧
      ((∃ e, e ≠ 0 ∧ r = .returned (.tuple #[.string ⟨#[]⟩, .int .i64 e]) ∧ SessAt w1 p.X p.D (p.ds.length / 4) (p.ds.length % 4) p.st ∧ Refused p d e) ∨
       (r = .returned (.tuple #[.string ⟨(outL p.D p.ds.length p.st d.data.toList).toArray⟩, .int .i64 0]) ∧ SessAt w1 p.X p.D ((p.ds.length + 1) / 4) ((p.ds.length + 1) % 4) (nextS p.D p.ds.length p.st d.data.toList) ∧ Went p d)) := by
  have hok := h.hdn.ok p.ds.length (Nat.le_refl _)
  have hS := h.S
  by_cases hj : p.ds.length / 4 < p.D.N
  · rcases (show p.ds.length % 4 = 0 ∨ p.ds.length % 4 = 1 ∨ p.ds.length % 4 = 2 ∨ p.ds.length % 4 = 3 by omega) with hr | hr | hr | hr
    · have en : nextS p.D p.ds.length p.st d.data.toList = p.st.sent p.D d.data.toList := by unfold nextS; rw [if_pos hr]
      have eo : outL p.D p.ds.length p.st d.data.toList = (p.st.sent p.D d.data.toList).y := by unfold outL; rw [if_neg (by omega), en]
      rw [hr] at hok hS
      have ho2 := sent_ok h.O hok d.data.toList
      refine (Step_0 p.X p.D _ p.st d w hd h.O hok hj hS).mono ?_
      rintro r w1 ⟨rfl, hs, m⟩
      refine ⟨m, Or.inr ⟨by rw [eo], ?_, hj, fun c => by omega, ?_⟩⟩
      · rw [en, show (p.ds.length + 1) / 4 = p.ds.length / 4 by omega, show (p.ds.length + 1) % 4 = 1 by omega]
        exact hs
      · refine h.hdn.snoc d hd hj (fun c => by omega) ?_
        rw [show nextS p.D p.ds.length (playN p.D p.s0 p.ds p.ds.length) d.data.toList = p.st.sent p.D d.data.toList from en, show (p.ds.length + 1) % 4 = 1 by omega]
        exact ho2
    · have en : nextS p.D p.ds.length p.st d.data.toList = p.st.answered p.D (p.ds.length / 4) d.data.toList := by unfold nextS; rw [if_neg (by omega), if_pos hr]
      have eo : outL p.D p.ds.length p.st d.data.toList = (linS1 p.D (p.ds.length / 4) p.st d.data.toList).1 := by unfold outL; rw [if_neg (by omega), en]; rfl
      rw [hr] at hok hS
      refine (Step_1 p.X p.D _ p.st d w hd h.O hok hj hS).mono ?_
      rintro r w1 ⟨m, ⟨z0, zc, rfl, hs⟩ | ⟨z4, rfl, hs⟩⟩
      · have ho2 := answered_ok h.O hok (p.ds.length / 4) d.data.toList zc
        refine ⟨m, Or.inr ⟨by rw [eo], ?_, hj, fun _ => z0, ?_⟩⟩
        · rw [en, show (p.ds.length + 1) / 4 = p.ds.length / 4 by omega, show (p.ds.length + 1) % 4 = 2 by omega]
          exact hs
        · refine h.hdn.snoc d hd hj (fun _ => z0) ?_
          rw [show nextS p.D p.ds.length (playN p.D p.s0 p.ds p.ds.length) d.data.toList = p.st.answered p.D (p.ds.length / 4) d.data.toList from en, show (p.ds.length + 1) % 4 = 2 by omega]
          exact ho2
      · exact ⟨m, Or.inl ⟨4, by decide, rfl, by rw [hr]; exact hs, Or.inr ⟨rfl, hj, hr, z4⟩⟩⟩
    · have en : nextS p.D p.ds.length p.st d.data.toList = p.st.opened p.D := by unfold nextS; rw [if_neg (by omega), if_neg (by omega), if_pos hr]
      have eo : outL p.D p.ds.length p.st d.data.toList = [] := by unfold outL; rw [if_pos (by omega)]
      rw [hr] at hok hS
      have ho2 := opened_ok h.O hok
      refine (Step_2 p.X p.D _ p.st d w h.O hok hj hS).mono ?_
      rintro r w1 ⟨rfl, hs, m⟩
      refine ⟨m, Or.inr ⟨by rw [eo], ?_, hj, fun c => by omega, ?_⟩⟩
      · rw [en, show (p.ds.length + 1) / 4 = p.ds.length / 4 by omega, show (p.ds.length + 1) % 4 = 3 by omega]
        exact hs
      · refine h.hdn.snoc d hd hj (fun c => by omega) ?_
        rw [show nextS p.D p.ds.length (playN p.D p.s0 p.ds p.ds.length) d.data.toList = p.st.opened p.D from en, show (p.ds.length + 1) % 4 = 3 by omega]
        exact ho2
    · have en : nextS p.D p.ds.length p.st d.data.toList = p.st.bent p.D (p.ds.length / 4) d.data.toList := by unfold nextS; rw [if_neg (by omega), if_neg (by omega), if_neg (by omega)]
      have eo : outL p.D p.ds.length p.st d.data.toList = [] := by unfold outL; rw [if_pos (by omega)]
      rw [hr] at hok hS
      have ho2 := bent_ok h.O hok (p.ds.length / 4) d.data.toList
      refine (Step_3 p.X p.D _ p.st d w hd h.O hok hj hS).mono ?_
      rintro r w1 ⟨rfl, hs, m⟩
      refine ⟨m, Or.inr ⟨by rw [eo], ?_, hj, fun c => by omega, ?_⟩⟩
      · rw [en, show (p.ds.length + 1) / 4 = p.ds.length / 4 + 1 by omega, show (p.ds.length + 1) % 4 = 0 by omega]
        exact hs
      · refine h.hdn.snoc d hd hj (fun c => by omega) ?_
        rw [show nextS p.D p.ds.length (playN p.D p.s0 p.ds p.ds.length) d.data.toList = p.st.bent p.D (p.ds.length / 4) d.data.toList from en, show (p.ds.length + 1) % 4 = 0 by omega]
        exact ho2
  · refine (Step_end p.X p.D _ _ p.st d w (by omega) hS).mono ?_
    rintro r w1 ⟨rfl, rfl⟩
    exact ⟨Mut.refl _ _, Or.inl ⟨5, by decide, rfl, hS, Or.inl ⟨rfl, by omega⟩⟩⟩

theorem ref_no (p : Pr) (d : ByteArray) (hd : d.size ≤ maxLen) (e : Int) (he : e ≠ 0) (hr : Refused p d e) (w : World) (O : p.D.Ok) (I : p.D.Is p.net p.key p.turn) (hin : okL p.input.data.toList p.D.n 2 p.D.t = true) (hdn : Done p.D p.s0 p.ds) (C : RC w p.R p.D.n p.D.t p.D.q p.D.b p.net p.key p.turn p.input p.vd) (own : OwnS w p.vd p.ds) :
    Calls Tryz.prog 56 (refArgs p.R d) w fun r w' => r = .returned (.tuple #[.string ⟨#[]⟩, .int .i64 e]) ∧ Up w w' := by
  refine refStep_no p.R p.D p.ds d p.net p.key p.turn p.input p.vd e w O I hin hdn C own he fun W hW => ?_
  have hle := hdn.le O
  rcases hr with ⟨rfl, hN⟩ | ⟨rfl, hj, h1, hz⟩
  · exact stepped_end p.R p.D (p.ds.length : Int) p.st d 0 p.net p.key p.turn p.input p.vd W O I (by omega) (by omega) (by omega) hW
  · have hok := hdn.ok p.ds.length (Nat.le_refl _)
    rw [h1] at hok
    have := stepped_1n p.R p.D (p.ds.length / 4) p.st d 0 p.net p.key p.turn p.input p.vd W hd O I hok hj hz hW
    rw [show (4 * ((p.ds.length / 4 : Nat) : Int) + 1) = (p.ds.length : Int) by omega] at this
    exact this

theorem ref_ok (p : Pr) (d : ByteArray) (hd : d.size ≤ maxLen) (hw : Went p d) (w : World) (O : p.D.Ok) (I : p.D.Is p.net p.key p.turn) (hin : okL p.input.data.toList p.D.n 2 p.D.t = true) (hdn : Done p.D p.s0 p.ds) (C : RC w p.R p.D.n p.D.t p.D.q p.D.b p.net p.key p.turn p.input p.vd) (own : OwnS w p.vd p.ds) (h0 : p.ds = [] → p.vd = .slice none 0 0) :
    Calls Tryz.prog 56 (refArgs p.R d) w fun r w' => r = .returned (.tuple #[.string ⟨(outL p.D p.ds.length p.st d.data.toList).toArray⟩, .int .i64 0]) ∧ ∃ vd', RC w' p.R p.D.n p.D.t p.D.q p.D.b p.net p.key p.turn p.input vd' ∧ OwnS w' vd' (p.ds ++ [d]) ∧ (vd'.ownBlock = p.vd.ownBlock ∨ ∃ g, vd'.ownBlock = some g ∧ w.heap.size ≤ g) ∧ Mut (RS p.R p.vd) w w' :=
  refStep_ok p.R p.D p.ds d p.net p.key p.turn p.input p.vd w O I hin hdn C own h0 fun W hW =>
    stepped_in p.R p.D p.ds.length p.st d 0 p.net p.key p.turn p.input p.vd W hd O I (hdn.ok _ (Nat.le_refl _)) hw.lay hw.fit hW

end Go.Proofs.YtcjhgbljhpflfabGreat

namespace Go.Proofs.YtcjhgbljhpflfabGreat
open Go.RowKit
set_option linter.unusedVariables false
set_option maxRecDepth 100000

abbrev Pr.val (p : Pr) : Value := .agg #[.pointer (some ⟨p.X, 0, none⟩), .pointer (some ⟨p.R, 0, none⟩)]

/-- the blocks of a session that may turn -/
abbrev PS (p : Pr) (k : Nat) : Prop := k = p.X ∨ RS p.R p.vd k

/-- behind something done on p: p' in its place -/
structure Moved (w w' : World) (B : Nat) (p p' : Pr) : Prop where
  X : p'.X = p.X
  R : p'.R = p.R
  at_ : PairAt w' B p'
  vd : p'.vd.ownBlock = p.vd.ownBlock ∨ ∃ g, p'.vd.ownBlock = some g ∧ w.heap.size ≤ g
  others : ∀ a, PairAt w B a → Far a p → PairAt w' B a
  turned : Mut (PS p) w w'

theorem Moved.of_up {w w' : World} {B : Nat} {p : Pr} (h : PairAt w B p) (hu : Up w w') : Moved w w' B p p :=
  ⟨rfl, rfl, h.up hu, Or.inl rfl, fun a ha _ => ha.up hu, hu.mut⟩

theorem Moved.up {w w1 w' : World} {B : Nat} {p p' : Pr} (h : Moved w w1 B p p') (hu : Up w1 w') : Moved w w' B p p' :=
  ⟨h.X, h.R, h.at_.up hu, h.vd, fun a ha hf => (h.others a ha hf).up hu, h.turned.trans hu.mut⟩

theorem Moved.from_up {w0 w w' : World} {B : Nat} {p p' : Pr} (hu : Up w0 w) (h : Moved w w' B p p') : Moved w0 w' B p p' :=
  ⟨h.X, h.R, h.at_, by
    rcases h.vd with e | ⟨g, e, hg⟩
    · exact Or.inl e
    · exact Or.inr ⟨g, e, Nat.le_trans hu.size hg⟩, fun a ha hf => h.others a (ha.up hu) hf, hu.mut.trans h.turned⟩

theorem moved_no {w w1 w2 : World} {B : Nat} {p : Pr} (h : PairAt w B p) (m1 : Mut (fun k => k = p.X) w w1) (s1 : SessAt w1 p.X p.D (p.ds.length / 4) (p.ds.length % 4) p.st) (hu : Up w1 w2) : Moved w w2 B p p :=
  ⟨rfl, rfl, ⟨h.O, h.I, h.hin, h.hdn, s1.up hu, (h.C.other m1 h.S).up hu, row_up (h.own.other h.h0 m1 h.S) hu, h.h0, h.bX, h.bR, h.bD⟩, Or.inl rfl,
    fun a ha hf => PairAt.other (a' := a) ha h hf m1 ⟨_, _, _, s1⟩ hu.mut ⟨p.vd, (h.C.other m1 h.S).up hu⟩, (m1.mono fun k e => Or.inl e).trans hu.mut⟩

theorem moved_ok {w w1 w2 : World} {B : Nat} {p : Pr} {d : ByteArray} {vd' : Value} (h : PairAt w B p) (hB : B ≤ w.heap.size) (m1 : Mut (fun k => k = p.X) w w1) (s1 : SessAt w1 p.X p.D ((p.ds.length + 1) / 4) ((p.ds.length + 1) % 4) (nextS p.D p.ds.length p.st d.data.toList)) (hw : Went p d)
    (c2 : RC w2 p.R p.D.n p.D.t p.D.q p.D.b p.net p.key p.turn p.input vd') (o2 : OwnS w2 vd' (p.ds ++ [d])) (b2 : vd'.ownBlock = p.vd.ownBlock ∨ ∃ g, vd'.ownBlock = some g ∧ w1.heap.size ≤ g) (m2 : Mut (RS p.R p.vd) w1 w2) : Moved w w2 B p { p with ds := p.ds ++ [d], vd := vd' } := by
  have c1 := h.C.other m1 h.S
  have o1 := h.own.other h.h0 m1 h.S
  have gl : (p.ds ++ [d]).length = p.ds.length + 1 := by simp
  refine ⟨rfl, rfl, ⟨h.O, h.I, h.hin, hw.done, ?_, c2, o2, fun e => by simp at e, h.bX, h.bR, ?_⟩, ?_, fun a ha hf => PairAt.other (a' := a) ha h hf m1 ⟨_, _, _, s1⟩ m2 ⟨_, c2⟩, (m1.mono fun k e => Or.inl e).trans (m2.mono fun k e => Or.inr e)⟩
  · have := s1.ref h.O m2 c1 c2 o1 h.h0
    show SessAt w2 p.X p.D ((p.ds ++ [d]).length / 4) ((p.ds ++ [d]).length % 4) (playN p.D p.s0 (p.ds ++ [d]) (p.ds ++ [d]).length)
    rw [gl, playN_last]
    exact this
  · intro g hg
    rcases b2 with e | ⟨g', e, hg'⟩
    · exact h.bD g (by rw [← e]; exact hg)
    · have : g' = g := by
        have h2 : vd'.ownBlock = some g := hg
        rw [e] at h2
        exact Option.some.inj h2
      have := m1.size
      omega
  · rcases b2 with e | ⟨g', e, hg'⟩
    · exact Or.inl e
    · exact Or.inr ⟨g', e, Nat.le_trans m1.size hg'⟩

abbrev opV (k s n t q b : Int) (net key turn input d : ByteArray) : Value := .agg #[.int .i64 k, .int .i64 s, .int .i64 n, .int .i64 t, .int .i64 q, .int .i64 b, .string net, .string key, .string turn, .string input, .string d]

set_option maxHeartbeats 4000000 in
theorem does_step (w : World) (B : Nat) (p : Pr) (s n t q b : Int) (net key turn input d : ByteArray) (hd : d.size ≤ maxLen) (hB : B ≤ w.heap.size) (h : PairAt w B p) :
    Calls Tryz.prog 13 #[p.val, opV 2 s n t q b net key turn input d] w fun r w' => r = .returned (.bool true) ∧ ∃ p', Moved w w' B p p' := by
  obtain ⟨W, hW⟩ : ∃ W, W = (w.alloc (.cells #[.pointer (some ⟨p.X, 0, none⟩), .pointer (some ⟨p.R, 0, none⟩)] 41)).alloc (.cells #[.int .i64 2, .int .i64 s, .int .i64 n, .int .i64 t, .int .i64 q, .int .i64 b, .string net, .string key, .string turn, .string input, .string d] 37) := ⟨_, rfl⟩
  have huW : Up w W := by rw [hW]; exact ((Up.refl _).alloc _).alloc _
  have HW : Hid _ := h.up huW
  have hBW : B ≤ W.heap.size := Nat.le_trans hB huW.size
  have k1 : W.cell? ⟨w.heap.size, 1, none⟩ = some (.pointer (some ⟨p.R, 0, none⟩)) := by rw [hW]; simp [go_sem]
  have kd : W.cell? ⟨w.heap.size + 1, 10, none⟩ = some (.string d) := by rw [hW]; simp [go_sem]
  have K1 : Hid _ := k1
  have KD : Hid _ := kd
  have HX : Hid (w.heap.size ≠ p.X ∧ w.heap.size + 1 ≠ p.X) := by have := h.S.lt; exact ⟨by omega, by omega⟩
  clear h k1 kd
  go_enter Tryz.func13, Tryz.ntmps13
  go_wp2_with fail
  rw [← hW]
  clear hW
  refine Calls.mono (prog_step _ B p d hd HW.out) ?_
  rintro r w1 ⟨m, hcase⟩
  have k1 := m.cell K1.out HX.out.1
  have kd := m.cell KD.out HX.out.2
  rcases hcase with ⟨e, he, rfl, hs, hr⟩ | ⟨rfl, hs, hw⟩
  · have HS : Hid _ := hs
    have HR : Hid _ := hr
    clear hs hr
    go_wp2_with fail
    refine Calls.mono (ref_no p d hd e he HR.out _ HW.out.O HW.out.I HW.out.hin HW.out.hdn (HW.out.C.other m HW.out.S) (HW.out.own.other HW.out.h0 m HW.out.S)) ?_
    rintro r w2 ⟨rfl, hu2⟩
    have HM : Hid (Moved W w2 B p p) := moved_no HW.out m HS.out hu2
    clear k1 kd
    go_wp2_with fail
    refine (num_calls _ _).mono ?_
    rintro r w3 ⟨rfl, rfl⟩
    go_wp2_with fail
    go_ret
    exact ⟨rfl, p, Moved.from_up huW HM.out⟩
  · have HS : Hid _ := hs
    have HWt : Hid _ := hw
    clear hs hw
    have HRo : Hid _ := fun C own => ref_ok p d hd HWt.out w1 HW.out.O HW.out.I HW.out.hin HW.out.hdn C own HW.out.h0
    generalize hO : (⟨(outL p.D p.ds.length p.st d.data.toList).toArray⟩ : ByteArray) = A at HRo
    clear hO
    go_wp2_with fail
    refine Calls.mono (HRo.out (HW.out.C.other m HW.out.S) (HW.out.own.other HW.out.h0 m HW.out.S)) ?_
    rintro r w2 ⟨rfl, vd', c2, o2, b2, m2⟩
    have HM : Hid (Moved W w2 B p { p with ds := p.ds ++ [d], vd := vd' }) := moved_ok HW.out hBW m HS.out HWt.out c2 o2 b2 m2
    clear k1 kd c2 o2 b2
    go_wp2_with fail
    refine (num_calls _ _).mono ?_
    rintro r w3 ⟨rfl, rfl⟩
    go_wp2_with fail
    go_ret
    exact ⟨rfl, _, Moved.from_up huW HM.out⟩

end Go.Proofs.YtcjhgbljhpflfabGreat

namespace Go.Proofs.YtcjhgbljhpflfabGreat
open Go.RowKit
set_option linter.unusedVariables false
set_option maxRecDepth 100000

set_option maxHeartbeats 4000000 in
theorem does_shares (w : World) (B : Nat) (p : Pr) (s n t q b : Int) (net key turn input d : ByteArray) (h : PairAt w B p) :
    Calls Tryz.prog 13 #[p.val, opV 3 s n t q b net key turn input d] w fun r w' => r = .returned (.bool true) ∧ Up w w' := by
  obtain ⟨W, hW⟩ : ∃ W, W = (w.alloc (.cells #[.pointer (some ⟨p.X, 0, none⟩), .pointer (some ⟨p.R, 0, none⟩)] 41)).alloc (.cells #[.int .i64 3, .int .i64 s, .int .i64 n, .int .i64 t, .int .i64 q, .int .i64 b, .string net, .string key, .string turn, .string input, .string d] 37) := ⟨_, rfl⟩
  have huW : Up w W := by rw [hW]; exact ((Up.refl _).alloc _).alloc _
  have HW : Hid _ := h.up huW
  have k1 : W.cell? ⟨w.heap.size, 1, none⟩ = some (.pointer (some ⟨p.R, 0, none⟩)) := by rw [hW]; simp [go_sem]
  have K1 : Hid _ := k1
  have HP : Hid _ := fun W' hS => Shares_calls p.X p.D (p.ds.length / 4) (p.ds.length % 4) p.st W' h.O (h.hdn.ok p.ds.length (Nat.le_refl _)) hS
  have HQ : Hid _ := fun W' hC hO => refShares_calls p.R p.D p.ds p.net p.key p.turn p.input p.vd W' h.O h.I h.hin h.hdn hC hO
  generalize (⟨(textsL 2 p.st.cl).toArray⟩ : ByteArray) = A1 at HP HQ
  generalize (⟨(textsL 2 p.st.sv).toArray⟩ : ByteArray) = A2 at HP HQ
  clear h k1
  go_enter Tryz.func13, Tryz.ntmps13
  go_wp2_with fail
  rw [← hW]
  clear hW
  refine Calls.mono (HP.out _ HW.out.S) ?_
  rintro r w1 ⟨rfl, hu1⟩
  have k1 := keepC hu1 K1.out
  go_wp2_with fail
  refine Calls.mono (HQ.out _ (HW.out.C.up hu1) (row_up HW.out.own hu1)) ?_
  rintro r w2 ⟨rfl, hu2⟩
  clear k1
  go_wp2_with fail
  go_ret
  exact ⟨rfl, (huW.trans hu1).trans hu2⟩

set_option maxHeartbeats 4000000 in
theorem does_output (w : World) (B : Nat) (p : Pr) (s n t q b : Int) (net key turn input d : ByteArray) (h : PairAt w B p) :
    Calls Tryz.prog 13 #[p.val, opV 4 s n t q b net key turn input d] w fun r w' => r = .returned (.bool true) ∧ Up w w' := by
  obtain ⟨W, hW⟩ : ∃ W, W = (w.alloc (.cells #[.pointer (some ⟨p.X, 0, none⟩), .pointer (some ⟨p.R, 0, none⟩)] 41)).alloc (.cells #[.int .i64 4, .int .i64 s, .int .i64 n, .int .i64 t, .int .i64 q, .int .i64 b, .string net, .string key, .string turn, .string input, .string d] 37) := ⟨_, rfl⟩
  have huW : Up w W := by rw [hW]; exact ((Up.refl _).alloc _).alloc _
  have HW : Hid _ := h.up huW
  have k1 : W.cell? ⟨w.heap.size, 1, none⟩ = some (.pointer (some ⟨p.R, 0, none⟩)) := by rw [hW]; simp [go_sem]
  have K1 : Hid _ := k1
  obtain ⟨A, e, hA⟩ : ∃ (A : ByteArray) (e : Int), (∀ W', SessAt W' p.X p.D (p.ds.length / 4) (p.ds.length % 4) p.st → Calls Tryz.prog 28 #[.pointer (some ⟨p.X, 0, none⟩)] W' fun r w' => r = .returned (.tuple #[.string A, .int .i64 e]) ∧ Up W' w') ∧ (∀ W', RC W' p.R p.D.n p.D.t p.D.q p.D.b p.net p.key p.turn p.input p.vd → OwnS W' p.vd p.ds → Calls Tryz.prog 58 #[.pointer (some ⟨p.R, 0, none⟩)] W' fun r w' => r = .returned (.tuple #[.string A, .int .i64 e]) ∧ Up W' w') := by
    by_cases hj : p.ds.length / 4 < p.D.N
    · refine ⟨_, _, fun W' hS => (Output_not p.X p.D _ _ p.st W' hj hS).mono ?_, fun W' hC hO => refOutput_not p.R p.D p.ds p.net p.key p.turn p.input p.vd W' h.O h.I hC hO (by omega)⟩
      rintro r w' ⟨rfl, rfl⟩
      exact ⟨rfl, Up.refl _⟩
    · exact ⟨_, _, fun W' hS => Output_yes p.X p.D _ _ p.st W' h.O (h.hdn.ok p.ds.length (Nat.le_refl _)) (by omega) hS, fun W' hC hO => refOutput_yes p.R p.D p.ds p.net p.key p.turn p.input p.vd W' h.O h.I h.hin h.hdn hC hO (by omega)⟩
  have HP : Hid _ := hA.1
  have HQ : Hid _ := hA.2
  clear h k1 hA
  go_enter Tryz.func13, Tryz.ntmps13
  go_wp2_with fail
  rw [← hW]
  clear hW
  refine Calls.mono (HP.out _ HW.out.S) ?_
  rintro r w1 ⟨rfl, hu1⟩
  have k1 := keepC hu1 K1.out
  go_wp2_with fail
  refine Calls.mono (HQ.out _ (HW.out.C.up hu1) (row_up HW.out.own hu1)) ?_
  rintro r w2 ⟨rfl, hu2⟩
  clear k1
  go_wp2_with fail
  refine (num_calls _ _).mono ?_
  rintro r w3 ⟨rfl, rfl⟩
  go_wp2_with fail
  go_ret
  exact ⟨rfl, (huW.trans hu1).trans hu2⟩

set_option maxHeartbeats 1000000 in
theorem does_other (w : World) (p : Pr) (k s n t q b : Int) (net key turn input d : ByteArray) (h2 : k ≠ 2) (h3 : k ≠ 3) (h4 : k ≠ 4) :
    Calls Tryz.prog 13 #[p.val, opV k s n t q b net key turn input d] w fun r w' => r = .returned (.bool true) ∧ Up w w' := by
  have e2 : (k == 2) = false := beq_eq_false_iff_ne.2 h2
  have e3 : (k == 3) = false := beq_eq_false_iff_ne.2 h3
  have e4 : (k == 4) = false := beq_eq_false_iff_ne.2 h4
  go_enter Tryz.func13, Tryz.ntmps13
  go_wp2_with fail
  go_ret
  exact ⟨rfl, ((Up.refl _).alloc _).alloc _⟩

theorem does_calls (w : World) (B : Nat) (p : Pr) (k s n t q b : Int) (net key turn input d : ByteArray) (hd : d.size ≤ maxLen) (hB : B ≤ w.heap.size) (h : PairAt w B p) :
    Calls Tryz.prog 13 #[p.val, opV k s n t q b net key turn input d] w fun r w' => r = .returned (.bool true) ∧ ∃ p', Moved w w' B p p' := by
  by_cases h2 : k = 2
  · subst h2
    exact does_step w B p s n t q b net key turn input d hd hB h
  · by_cases h3 : k = 3
    · subst h3
      refine (does_shares w B p s n t q b net key turn input d h).mono ?_
      rintro r w' ⟨rfl, hu⟩
      exact ⟨rfl, p, Moved.of_up h hu⟩
    · by_cases h4 : k = 4
      · subst h4
        refine (does_output w B p s n t q b net key turn input d h).mono ?_
        rintro r w' ⟨rfl, hu⟩
        exact ⟨rfl, p, Moved.of_up h hu⟩
      · refine (does_other w p k s n t q b net key turn input d h2 h3 h4).mono ?_
        rintro r w' ⟨rfl, hu⟩
        exact ⟨rfl, p, Moved.of_up h hu⟩

/-- New on both sides: the same refusal, or a session -/
theorem both_new (n t q b : Int) (net key turn input : ByteArray) (hl : net.size ≤ maxLen) (hk : key.size ≤ maxLen) (hm : turn.size ≤ maxLen) (hv : input.size ≤ maxLen) :
    (∃ e : Int, (∀ w, Calls Tryz.prog 19 #[.agg #[.int .i64 n, .int .i64 t, .int .i64 q, .int .i64 b], .string net, .string key, .string turn, .string input] w fun r w' => r = .returned (.tuple #[.pointer none, .int .i64 e]) ∧ Up w w') ∧ (∀ w, Calls Tryz.prog 55 #[.agg #[.int .i64 n, .int .i64 t, .int .i64 q, .int .i64 b], .string net, .string key, .string turn, .string input] w fun r w' => r = .returned (.tuple #[.pointer none, .int .i64 e]) ∧ Up w w')) ∨
    (∃ D : Dat, (D.n : Int) = n ∧ (D.t : Int) = t ∧ D.q = q ∧ D.b = b ∧ D.Ok ∧ D.Is net key turn ∧ okL input.data.toList D.n 2 D.t = true ∧
      (∀ w, Calls Tryz.prog 19 #[.agg #[.int .i64 n, .int .i64 t, .int .i64 q, .int .i64 b], .string net, .string key, .string turn, .string input] w fun r w' => ∃ X, r = .returned (.tuple #[.pointer (some ⟨X, 0, none⟩), .int .i64 0]) ∧ w.heap.size ≤ X ∧ SessAt w' X D 0 0 (St.begin D.n input.data.toList) ∧ Up w w') ∧
      (∀ w, Calls Tryz.prog 55 #[.agg #[.int .i64 n, .int .i64 t, .int .i64 q, .int .i64 b], .string net, .string key, .string turn, .string input] w fun r w' => ∃ R, r = .returned (.tuple #[.pointer (some ⟨R, 0, none⟩), .int .i64 0]) ∧ w.heap.size ≤ R ∧ RC w' R D.n D.t D.q D.b net key turn input (.slice none 0 0) ∧ Up w w')) := by
  cases hg : goodB n t q b with
  | false => exact Or.inl ⟨1, fun w => New_bad n t q b net key turn input w hg, fun w => refNew_bad n t q b net key turn input w hg⟩
  | true =>
    obtain ⟨g, e1, e2, hq, hq2, hb, hb2, hfit⟩ := goodB_NT hg
    generalize n.toNat = a at g e1
    generalize t.toNat = u at g e2
    subst e1 e2
    obtain ⟨L, hL⟩ := dig_ex q b hq hq2 hb
    cases h0 : netB net.data.toList a u with
    | false => exact Or.inl ⟨2, fun w => New_net a u q b net key turn input w hl g hg h0, fun w => refNew_form a u L q b net key turn input w hl hk hm g hq hq2 hb hb2 hL hg false _ _ h0 rfl rfl (Or.inl rfl)⟩
    | true =>
      cases h1 : secB key.data.toList a with
      | false => exact Or.inl ⟨2, fun w => New_key a u q b net key turn input w hl hk g hg h0 h1, fun w => refNew_form a u L q b net key turn input w hl hk hm g hq hq2 hb hb2 hL hg true false _ h0 h1 rfl (Or.inr (Or.inl ⟨rfl, rfl⟩))⟩
      | true =>
        cases h2 : tnB turn.data.toList (2 * a * L) q with
        | false => exact Or.inl ⟨2, fun w => New_turn a u L q b net key turn input w hl hk hm g hq hq2 hb hb2 hL hg h0 h1 h2, fun w => refNew_form a u L q b net key turn input w hl hk hm g hq hq2 hb hb2 hL hg true true false h0 h1 h2 (Or.inr (Or.inr ⟨rfl, rfl, rfl⟩))⟩
        | true =>
          cases h3 : okL input.data.toList a 2 u with
          | false =>
            refine Or.inl ⟨3, fun w => New_val a u L q b net key turn input w hl hk hm hv g hq hq2 hb hb2 hL hg h0 h1 h2 h3, fun w => ?_⟩
            refine (refNew_late a u L q b net key turn input w hl hk hm hv g hq hq2 hb hb2 hL hg h0 h1 h2 false h3).mono ?_
            rintro r w' ⟨hu, ⟨_, rfl⟩ | ⟨c, _⟩⟩
            · exact ⟨rfl, hu⟩
            · cases c
          | true =>
            have O : (Dat.mk a u q b L key.data.toList turn.data.toList net.data.toList).Ok := ⟨g, hq, hq2, hb, hb2, hg, hfit, hL, h1, h2, h0⟩
            refine Or.inr ⟨Dat.mk a u q b L key.data.toList turn.data.toList net.data.toList, rfl, rfl, rfl, rfl, O, ⟨rfl, rfl, rfl, hl, hk, hm⟩, h3, fun w => New_ok _ O net key turn input w hl hk hm hv rfl rfl rfl h3, fun w => ?_⟩
            refine (refNew_late a u L q b net key turn input w hl hk hm hv g hq hq2 hb hb2 hL hg h0 h1 h2 true h3).mono ?_
            rintro r w' ⟨hu, ⟨c, _⟩ | ⟨_, R, rfl, hR, hC⟩⟩
            · cases c
            · exact ⟨R, rfl, hR, hC, hu⟩

end Go.Proofs.YtcjhgbljhpflfabGreat

namespace Go.Proofs.YtcjhgbljhpflfabGreat
open Go.RowKit
set_option linter.unusedVariables false
set_option maxRecDepth 100000

theorem Done.nil (D : Dat) (s0 : St) (h : s0.Ok D 0) : Done D s0 [] :=
  ⟨fun k hk => by
    obtain rfl : k = 0 := by simpa using hk
    exact h, fun k hk => by simp at hk, fun k hk => by simp at hk, fun k hk => by simp at hk⟩

/-- a block that begins with a pointer is no session's -/
theorem PairAt.ptr {w w' : World} {B G : Nat} {p : Pr} {a : Option Addr} (h : PairAt w B p) (m : Mut (fun k => k = G) w w') (hc : w.cell? ⟨G, 0, none⟩ = some (.pointer a)) : PairAt w' B p := by
  obtain ⟨p1, x, y, vt, vr, nx, vc, vs, v0, v1, v2, h1⟩ := h.S.sc
  refine ⟨h.O, h.I, h.hin, h.hdn, h.S.keep h.O m ?_ (fun g xs hi => ?_) (fun H p x y hh e => ?_) (fun H f hh e => ?_), h.C.mut m ?_, h.own.mut m ?_, h.h0, h.bX, h.bR, h.bD⟩
  · rintro rfl
    rw [h1.c0] at hc
    cases hc
  · refine ⟨Nat.lt_of_lt_of_le hi.1 m.size, fun i hlt => m.cell (hi.2 i hlt) ?_⟩
    rintro rfl
    have := hi.2 0 (by omega)
    rw [hc] at this
    cases this
  · subst e
    rw [hc] at hh
    cases hh
  · subst e
    rw [hc] at hh
    cases hh
  · rintro rfl
    have := h.C.c0
    rw [hc] at this
    cases this
  · rintro g hg rfl
    obtain ⟨d, hd⟩ := h.own.head h.h0 hg
    rw [hc] at hd
    cases hd

/-- what made answers -/
def MadeR (w w' : World) (B : Nat) (r : Ending) : Prop :=
  (r = .returned (.tuple #[.agg #[.pointer none, .pointer none], .bool true]) ∧ Up w w') ∨
  (∃ p : Pr, r = .returned (.tuple #[p.val, .bool true]) ∧ PairAt w' B p ∧ w.heap.size ≤ p.X ∧ w.heap.size ≤ p.R ∧ p.vd = .slice none 0 0 ∧ Up w w')

set_option maxHeartbeats 4000000 in
theorem made_calls (w : World) (B : Nat) (k s n t q b : Int) (net key turn input d : ByteArray) (hB : B ≤ w.heap.size) (hl : net.size ≤ maxLen) (hk : key.size ≤ maxLen) (hm : turn.size ≤ maxLen) (hv : input.size ≤ maxLen) :
    Calls Tryz.prog 12 #[opV k s n t q b net key turn input d] w fun r w' => MadeR w w' B r := by
  have HPa : Hid (∀ W, Calls Tryz.prog 8 #[.agg #[.int .i64 n, .int .i64 t, .int .i64 q, .int .i64 b]] W fun r w' => r = .returned (.agg #[.int .i64 n, .int .i64 t, .int .i64 q, .int .i64 b]) ∧ Up W w') := fun W => params_calls n t q b W
  have hNew := both_new n t q b net key turn input hl hk hm hv
  obtain ⟨W, hW⟩ : ∃ W, W = (w.alloc (.cells #[.int .i64 k, .int .i64 s, .int .i64 n, .int .i64 t, .int .i64 q, .int .i64 b, .string net, .string key, .string turn, .string input, .string d] 37)).alloc (.cells #[.pointer none, .pointer none] 41) := ⟨_, rfl⟩
  have huW : Up w W := by rw [hW]; exact ((Up.refl _).alloc _).alloc _
  have hsW : W.heap.size = w.heap.size + 2 := by rw [hW]; simp
  have KO : Hid (W.cell? ⟨w.heap.size, 2, none⟩ = some (.int .i64 n) ∧ W.cell? ⟨w.heap.size, 3, none⟩ = some (.int .i64 t) ∧ W.cell? ⟨w.heap.size, 4, none⟩ = some (.int .i64 q) ∧ W.cell? ⟨w.heap.size, 5, none⟩ = some (.int .i64 b) ∧ W.cell? ⟨w.heap.size, 6, none⟩ = some (.string net) ∧ W.cell? ⟨w.heap.size, 7, none⟩ = some (.string key) ∧ W.cell? ⟨w.heap.size, 8, none⟩ = some (.string turn) ∧ W.cell? ⟨w.heap.size, 9, none⟩ = some (.string input)) := by
    show _ ∧ _ ∧ _ ∧ _ ∧ _ ∧ _ ∧ _ ∧ _
    rw [hW]
    exact ⟨by simp [go_sem], by simp [go_sem], by simp [go_sem], by simp [go_sem], by simp [go_sem], by simp [go_sem], by simp [go_sem], by simp [go_sem]⟩
  have KR0 : Hid (W.cell? ⟨w.heap.size + 1, 0, none⟩ = some (.pointer none)) := show W.cell? ⟨w.heap.size + 1, 0, none⟩ = some (.pointer none) from by rw [hW]; simp [go_sem]
  have KR1 : Hid (W.cell? ⟨w.heap.size + 1, 1, none⟩ = some (.pointer none)) := show W.cell? ⟨w.heap.size + 1, 1, none⟩ = some (.pointer none) from by rw [hW]; simp [go_sem]
  have KZ : Hid (∀ o, W.frozen? ⟨w.heap.size + 1, o, none⟩ = false) := show ∀ o, W.frozen? ⟨w.heap.size + 1, o, none⟩ = false from fun o => by rw [hW]; simp [go_sem]
  obtain ⟨o2, o3, o4, o5, o6, o7, o8, o9⟩ := KO.out
  rcases hNew with ⟨e, h1, h2⟩ | ⟨D, en, et, eq, eb, O, I, hin, h1, h2⟩
  · have HN1 : Hid _ := h1
    have HN2 : Hid _ := h2
    clear h1 h2
    go_enter Tryz.func12, Tryz.ntmps12
    go_wp2_with fail
    rw [← hW]
    clear hW
    go_region_held3 (fun w' => w'.cell? ⟨w.heap.size, 2, none⟩ = some (.int .i64 n) ∧ w'.cell? ⟨w.heap.size, 3, none⟩ = some (.int .i64 t) ∧ w'.cell? ⟨w.heap.size, 4, none⟩ = some (.int .i64 q) ∧ w'.cell? ⟨w.heap.size, 5, none⟩ = some (.int .i64 b) ∧ w'.cell? ⟨w.heap.size, 6, none⟩ = some (.string net) ∧ w'.cell? ⟨w.heap.size, 7, none⟩ = some (.string key) ∧ w'.cell? ⟨w.heap.size, 8, none⟩ = some (.string turn) ∧ w'.cell? ⟨w.heap.size, 9, none⟩ = some (.string input))
      (first | go_keep | exact keepC8s hu2 (by assumption) | exact keepC8s hu1 (by assumption))
      ((first | (go_at_call 8; refine Calls.mono (HPa.out _) ?_; rintro r w1 ⟨rfl, hu1⟩) | (go_at_call 19; refine Calls.mono (HN1.out _) ?_; rintro r w2 ⟨rfl, hu2⟩)))
    have hu02 : Up W w2 := Up.trans (Up.trans (Up.drew (Up.refl _)) hu1) hu2
    clear o2 o3 o4 o5 o6 o7 o8 o9 hu1 hu2
    obtain ⟨o2, o3, o4, o5, o6, o7, o8, o9⟩ := keepC8s hu02 KO.out
    go_wp2_with fail
    refine Calls.mono (HN2.out _) ?_
    rintro r w3 ⟨rfl, hu3⟩
    have hu03 := hu02.trans hu3
    clear o2 o3 o4 o5 o6 o7 o8 o9
    have r0 := keepC hu03 KR0.out
    have r1 := keepC hu03 KR1.out
    have rz : ∀ o, w3.frozen? ⟨w.heap.size + 1, o, none⟩ = false := fun o => frozen_upN hu03 KR0.out (KZ.out o)
    have HV0 : Hid (Up w w3) := huW.trans hu03
    go_wp2_with fail
    refine (num_calls _ _).mono ?_
    rintro r w4 ⟨rfl, rfl⟩
    go_wp2_with fail
    refine bodyPost_ret (v := .tuple #[.agg #[.pointer none, .pointer none], .bool true]) (by simp [results, Tryz.results12, go_sem, r0, r1]) rfl (Or.inl ⟨rfl, ?_⟩)
    iterate 2 (refine Below.setCell ?_ (by dsimp only; omega) _)
    exact HV0.out
  · subst en et eq eb
    have HN1 : Hid _ := h1
    have HN2 : Hid _ := h2
    have HO : Hid _ := O
    have HI : Hid _ := I
    have HIn : Hid _ := hin
    clear h1 h2 O I hin
    go_enter Tryz.func12, Tryz.ntmps12
    go_wp2_with fail
    rw [← hW]
    clear hW
    go_region_held3 (fun w' => w'.cell? ⟨w.heap.size, 2, none⟩ = some (.int .i64 (D.n : Int)) ∧ w'.cell? ⟨w.heap.size, 3, none⟩ = some (.int .i64 (D.t : Int)) ∧ w'.cell? ⟨w.heap.size, 4, none⟩ = some (.int .i64 D.q) ∧ w'.cell? ⟨w.heap.size, 5, none⟩ = some (.int .i64 D.b) ∧ w'.cell? ⟨w.heap.size, 6, none⟩ = some (.string net) ∧ w'.cell? ⟨w.heap.size, 7, none⟩ = some (.string key) ∧ w'.cell? ⟨w.heap.size, 8, none⟩ = some (.string turn) ∧ w'.cell? ⟨w.heap.size, 9, none⟩ = some (.string input))
      (first | go_keep | exact keepC8s hu2 (by assumption) | exact keepC8s hu1 (by assumption))
      ((first | (go_at_call 8; refine Calls.mono (HPa.out _) ?_; rintro r w1 ⟨rfl, hu1⟩) | (go_at_call 19; refine Calls.mono (HN1.out _) ?_; rintro r w2 ⟨X, rfl, hX, hS, hu2⟩)))
    have hu02 : Up W w2 := Up.trans (Up.trans (Up.drew (Up.refl _)) hu1) hu2
    have HX : Hid (W.heap.size ≤ X) := Nat.le_trans (Up.trans (Up.drew (Up.refl W)) hu1).size hX
    have HS : Hid (SessAt w2 X D 0 0 (St.begin D.n input.data.toList)) := hS
    clear o2 o3 o4 o5 o6 o7 o8 o9 hu1 hu2 hX hS
    obtain ⟨o2, o3, o4, o5, o6, o7, o8, o9⟩ := keepC8s hu02 KO.out
    go_wp2_with fail
    refine Calls.mono (HN2.out _) ?_
    rintro r w3 ⟨R, rfl, hR, hC, hu3⟩
    have hu03 := hu02.trans hu3
    have HR : Hid (W.heap.size ≤ R) := Nat.le_trans hu02.size hR
    have HC : Hid _ := hC
    clear o2 o3 o4 o5 o6 o7 o8 o9 hR hC
    have r0 := keepC hu03 KR0.out
    have r1 := keepC hu03 KR1.out
    have rz : ∀ o, w3.frozen? ⟨w.heap.size + 1, o, none⟩ = false := fun o => frozen_upN hu03 KR0.out (KZ.out o)
    have HV0 : Hid (Up w w3) := huW.trans hu03
    have HP3 : Hid (PairAt w3 B ⟨X, R, D, [], net, key, turn, input, .slice none 0 0⟩) := ⟨HO.out, HI.out, HIn.out, Done.nil D _ (St.begin_ok D HO.out _ HIn.out), (show SessAt w3 X D (0 / 4) (0 % 4) (St.begin D.n input.data.toList) from HS.out.up hu3), HC.out, World.ownsRow_nil _ _ _ _, fun _ => rfl, by have := HX.out; show B ≤ X; omega, by have := HR.out; show B ≤ R; omega, fun g hg => by cases hg⟩
    have HXw : Hid (w.heap.size ≤ X ∧ w.heap.size ≤ R) := ⟨by have := HX.out; omega, by have := HR.out; omega⟩
    have HF : Hid (∀ u0 u1, PairAt ((w3.setCell ⟨w.heap.size + 1, 0, none⟩ u0).setCell ⟨w.heap.size + 1, 1, none⟩ u1) B ⟨X, R, D, [], net, key, turn, input, .slice none 0 0⟩) := fun u0 u1 => HP3.out.ptr (((Mut.refl (fun k => k = w.heap.size + 1) w3).setX 0 u0).setX 1 u1) r0
    clear HP3
    go_wp2_with fail
    refine (num_calls _ _).mono ?_
    rintro r w4 ⟨rfl, rfl⟩
    go_wp2_with fail
    refine bodyPost_ret (v := .tuple #[.agg #[.pointer (some ⟨X, 0, none⟩), .pointer (some ⟨R, 0, none⟩)], .bool true]) (by simp [results, Tryz.results12, go_sem, r0, r1]) rfl (Or.inr ⟨⟨X, R, D, [], net, key, turn, input, .slice none 0 0⟩, rfl, HF.out _ _, HXw.out.1, HXw.out.2, rfl, ?_⟩)
    iterate 2 (refine Below.setCell ?_ (by dsimp only; omega) _)
    exact HV0.out

set_option maxHeartbeats 400000 in
theorem lawPick_calls (c : Int) (m : Nat) (w : World) (hm : 1 ≤ m) (hm2 : m ≤ 4611686018427387904) (hc : -9223372036854775808 ≤ c) (hc2 : c ≤ 9223372036854775807) :
    Calls Tryz.prog 14 #[.int .i64 c, .int .i64 m] w fun e w' => (∃ i : Nat, i < m ∧ e = .returned (.int .i64 (i : Int))) ∧ w' = w := by
  have e0 : ((m : Int) == 0) = false := beq_eq_false_iff_ne.2 (by omega)
  have e1 : ¬ (m : Int) = 0 := by omega
  have e2 : ¬ m = 0 := by omega
  by_cases h : c < 0
  · have h1 : (-(c + 1)).tmod (m : Int) = (-(c + 1)) % (m : Int) := Int.tmod_eq_emod_of_nonneg (by omega)
    have h2 := Int.emod_nonneg (-(c + 1)) (b := (m : Int)) (by omega)
    have h3 := Int.emod_lt_of_pos (-(c + 1)) (b := (m : Int)) (by omega)
    have e3 : IntKind.i64.wrap (c + 1) = c + 1 := IntWalk.i64_in _ (by omega)
    have e4 : IntKind.i64.wrap (-(c + 1)) = -(c + 1) := IntWalk.i64_in _ (by omega)
    go_enter Tryz.func14, Tryz.ntmps14
    go_wp2_with fail
    go_ret
    exact ⟨⟨((-(c + 1)) % (m : Int)).toNat, by omega, ret_int (by omega)⟩, rfl⟩
  · have h1 : c.tmod (m : Int) = c % (m : Int) := Int.tmod_eq_emod_of_nonneg (by omega)
    have h2 := Int.emod_nonneg c (b := (m : Int)) (by omega)
    have h3 := Int.emod_lt_of_pos c (b := (m : Int)) (by omega)
    go_enter Tryz.func14, Tryz.ntmps14
    go_wp2_with fail
    go_ret
    exact ⟨⟨(c % (m : Int)).toNat, by omega, ret_int (by omega)⟩, rfl⟩

end Go.Proofs.YtcjhgbljhpflfabGreat

namespace Go.Proofs.YtcjhgbljhpflfabGreat
open Go.RowKit
set_option linter.unusedVariables false
set_option maxRecDepth 100000

set_option maxHeartbeats 1000000 in
theorem noughts_calls (n : Nat) (w : World) (hn : n ≤ 1000) :
    Calls Tryz.prog 53 #[.int .i64 n] w fun e w' => e = .returned (.string ⟨(List.replicate n (0 : UInt8)).toArray⟩) ∧ w' = w := by
  have HR : Hid (∀ k, List.replicate k (0 : UInt8) ++ [0] = List.replicate (k + 1) 0) := fun k => (List.replicate_succ' ..).symm
  go_enter Tryz.func53, Tryz.ntmps53
  go_wp2_with fail
  go_loopw [3, 4] (fun ss sj wr => ∃ k : Nat, k ≤ n ∧ sj = .int .i64 (k : Int) ∧ ss = .string ⟨(List.replicate k (0 : UInt8)).toArray⟩ ∧ wr = w) (fun _ sj _ => n - (intOf sj).toNat)
  case atStart => exact ⟨0, Nat.zero_le _, rfl, rfl, rfl⟩
  case round =>
    obtain ⟨k, hk, rfl, rfl, rfl⟩ := hrel
    by_cases hlt : k < n
    · have hadd := add_str (List.replicate k (0 : UInt8)) [0] (by simp; omega) (by simp)
      rw [HR.out] at hadd
      generalize hA : List.replicate (k + 1) (0 : UInt8) = A at hadd
      have HA : Hid _ := hA
      clear hA
      generalize List.replicate k (0 : UInt8) = A0 at hadd ⊢
      go_wp2_with fail
      go_roundw
      case rel => exact ⟨k + 1, by omega, by go_num, by rw [HA.out], trivial⟩
      case measure => simp [intOf]; omega
    · obtain rfl : k = n := by omega
      go_wp2_with fail
      go_ret
      exact ⟨rfl, rfl⟩

def exNet : List UInt8 := [78, 1, 76] ++ List.replicate 18 0
def exTurn : List UInt8 := [82] ++ List.replicate 160 0
def exD : Dat := ⟨4, 17, 1000003, 4, 5, [75, 0, 1, 2, 0], exTurn, exNet⟩

theorem exD_ok : exD.Ok :=
  ⟨ntEx, by decide, by decide, by decide, by decide, by decide +kernel, by decide +kernel, ⟨by decide +kernel, by decide +kernel⟩, by decide +kernel, by decide +kernel, by decide +kernel⟩

theorem ex_cl : (⟨(textsL 2 (St.begin exD.n [0, 1, 0, 1, 0, 1, 0, 1]).cl).toArray⟩ : ByteArray) = ⟨#[0, 1, 0, 1, 0, 1, 0, 1]⟩ := by
  have : textsL 2 (St.begin exD.n [0, 1, 0, 1, 0, 1, 0, 1]).cl = [0, 1, 0, 1, 0, 1, 0, 1] := by decide +kernel
  rw [this]

theorem ex_sv : (⟨(textsL 2 (St.begin exD.n [0, 1, 0, 1, 0, 1, 0, 1]).sv).toArray⟩ : ByteArray) = ⟨#[0, 0, 0, 0, 0, 0, 0, 0]⟩ := by
  have : textsL 2 (St.begin exD.n [0, 1, 0, 1, 0, 1, 0, 1]).sv = [0, 0, 0, 0, 0, 0, 0, 0] := by decide +kernel
  rw [this]

theorem ex_y : (⟨((St.begin exD.n [0, 1, 0, 1, 0, 1, 0, 1]).sent exD []).y.toArray⟩ : ByteArray) = ⟨#[67, 0, 0, 0, 0, 2, 0, 0, 229, 197, 0, 15, 66, 65, 0, 15, 66, 65, 0, 15, 66, 65, 0, 0, 0, 0, 0, 0, 0, 0, 0, 0, 0, 0, 0, 0, 0, 0]⟩ := by
  have : ((St.begin exD.n [0, 1, 0, 1, 0, 1, 0, 1]).sent exD []).y = [67, 0, 0, 0, 0, 2, 0, 0, 229, 197, 0, 15, 66, 65, 0, 15, 66, 65, 0, 15, 66, 65, 0, 0, 0, 0, 0, 0, 0, 0, 0, 0, 0, 0, 0, 0, 0, 0] := by decide +kernel
  rw [this]

set_option maxHeartbeats 4000000 in
theorem begins_calls (w : World) : Calls Tryz.prog 11 #[] w fun e w' => e = .returned (.bool true) ∧ Up w w' := by
  have HN : Hid (∀ W, Calls Tryz.prog 19 #[.agg #[.int .i64 4, .int .i64 17, .int .i64 1000003, .int .i64 4], .string ⟨exNet.toArray⟩, .string ⟨#[75, 0, 1, 2, 0]⟩, .string ⟨exTurn.toArray⟩, .string ⟨#[0, 1, 0, 1, 0, 1, 0, 1]⟩] W fun r w' => ∃ X, r = .returned (.tuple #[.pointer (some ⟨X, 0, none⟩), .int .i64 0]) ∧ W.heap.size ≤ X ∧ SessAt w' X exD 0 0 (St.begin exD.n [0, 1, 0, 1, 0, 1, 0, 1]) ∧ Up W w') := fun W => New_ok exD exD_ok ⟨exNet.toArray⟩ ⟨#[75, 0, 1, 2, 0]⟩ ⟨exTurn.toArray⟩ ⟨#[0, 1, 0, 1, 0, 1, 0, 1]⟩ W (by decide +kernel) (by decide +kernel) (by decide +kernel) (by decide +kernel) rfl rfl rfl (by decide +kernel)
  have hok : (St.begin exD.n [0, 1, 0, 1, 0, 1, 0, 1]).Ok exD 0 := St.begin_ok exD exD_ok _ (by decide +kernel)
  have HS : Hid (∀ X W, SessAt W X exD 0 0 (St.begin exD.n [0, 1, 0, 1, 0, 1, 0, 1]) → Calls Tryz.prog 54 #[.pointer (some ⟨X, 0, none⟩)] W fun r w' => r = .returned (.tuple #[.string ⟨#[0, 1, 0, 1, 0, 1, 0, 1]⟩, .string ⟨#[0, 0, 0, 0, 0, 0, 0, 0]⟩]) ∧ Up W w') := fun X W h => by
    have := Shares_calls X exD 0 0 _ W exD_ok hok h
    rw [ex_cl, ex_sv] at this
    exact this
  have HT : Hid (∀ X W, SessAt W X exD 0 0 (St.begin exD.n [0, 1, 0, 1, 0, 1, 0, 1]) → Calls Tryz.prog 29 #[.pointer (some ⟨X, 0, none⟩), .string ⟨#[]⟩] W fun r w' => r = .returned (.tuple #[.string ⟨#[67, 0, 0, 0, 0, 2, 0, 0, 229, 197, 0, 15, 66, 65, 0, 15, 66, 65, 0, 15, 66, 65, 0, 0, 0, 0, 0, 0, 0, 0, 0, 0, 0, 0, 0, 0, 0, 0]⟩, .int .i64 0]) ∧ Mut (fun k => k = X) W w') := fun X W h => by
    refine (Step_0 X exD 0 _ ⟨#[]⟩ W (by decide) exD_ok hok (by decide +kernel) h).mono ?_
    rintro r w' ⟨rfl, _, m⟩
    exact ⟨by rw [← ex_y], m⟩
  have HO : Hid (∀ n W, n ≤ 1000 → Calls Tryz.prog 53 #[.int .i64 (n : Nat)] W fun e w' => e = .returned (.string ⟨(List.replicate n (0 : UInt8)).toArray⟩) ∧ Up W w') := fun n W h => (noughts_calls n W h).mono fun e w' ⟨h1, h2⟩ => ⟨h1, by rw [h2]; exact Up.refl _⟩
  have H18 : Hid (∀ W, Calls Tryz.prog 53 #[.int .i64 18] W fun e w' => e = .returned (.string ⟨(List.replicate 18 (0 : UInt8)).toArray⟩) ∧ Up W w') := fun W => HO.out 18 W (by omega)
  have H160 : Hid (∀ W, Calls Tryz.prog 53 #[.int .i64 160] W fun e w' => e = .returned (.string ⟨(List.replicate 160 (0 : UInt8)).toArray⟩) ∧ Up W w') := fun W => HO.out 160 W (by omega)
  have H8 : Hid (∀ W, Calls Tryz.prog 53 #[.int .i64 8] W fun e w' => e = .returned (.string ⟨#[0, 0, 0, 0, 0, 0, 0, 0]⟩) ∧ Up W w') := fun W => HO.out 8 W (by omega)
  have hadd1 := add_str [78, 1, 76] (List.replicate 18 (0 : UInt8)) (by decide) (by decide)
  have hadd2 := add_str [82] (List.replicate 160 (0 : UInt8)) (by decide) (by decide)
  rw [show [78, 1, 76] ++ List.replicate 18 (0 : UInt8) = exNet from rfl] at hadd1
  rw [show [82] ++ List.replicate 160 (0 : UInt8) = exTurn from rfl] at hadd2
  generalize exNet = XN at HN hadd1
  generalize exTurn = XT at HN hadd2
  generalize St.begin exD.n [0, 1, 0, 1, 0, 1, 0, 1] = S0 at HN HS HT
  generalize List.replicate 18 (0 : UInt8) = R18 at H18 hadd1
  generalize List.replicate 160 (0 : UInt8) = R160 at H160 hadd2
  clear hok HO
  go_enter Tryz.func11, Tryz.ntmps11
  go_wp2_with fail
  refine Calls.mono (H18.out _) ?_
  rintro r wa ⟨rfl, hua⟩
  go_wp2_with fail
  refine Calls.mono (H160.out _) ?_
  rintro r wb ⟨rfl, hub⟩
  go_wp2_with fail
  refine (example_calls _).mono ?_
  rintro r w1 ⟨rfl, hu1⟩
  go_wp2_with fail
  refine Calls.mono (HN.out _) ?_
  rintro r w2 ⟨X, rfl, hX, hS, hu2⟩
  have HX : Hid _ := hX
  have HSS : Hid (SessAt w2 X exD 0 0 S0) := hS
  clear hX hS
  go_wp2_with fail
  refine Calls.mono (HS.out X _ HSS.out) ?_
  rintro r w3 ⟨rfl, hu3⟩
  go_wp2_with fail
  refine Calls.mono (HT.out X _ (HSS.out.up hu3)) ?_
  rintro r w4 ⟨rfl, m4⟩
  have HF : Hid (Up w w4) := by
    have h1 : w.heap.size ≤ w1.heap.size := ((hua.trans hub).trans hu1).size
    have h2 := HX.out
    have h3 : Below w.heap.size w3 w4 := m4.below (Nat.le_trans h1 (hu2.trans hu3).size) (fun k e => by subst e; omega)
    exact Below.trans (((hua.trans hub).trans hu1).trans (hu2.trans hu3)) h3
  go_wp2_with fail
  refine Calls.mono (H8.out _) ?_
  rintro r wc ⟨rfl, huc⟩
  go_wp2_with fail
  go_ret
  exact ⟨rfl, HF.out.trans huc⟩

end Go.Proofs.YtcjhgbljhpflfabGreat

namespace Go.Proofs.YtcjhgbljhpflfabGreat
open Go.RowKit
set_option linter.unusedVariables false
set_option maxRecDepth 100000

/-- the pointers of the first m sessions -/
def pv (f : Nat → Pr) : Nat → List Value
  | 0 => []
  | m + 1 => pv f m ++ [.pointer (some ⟨(f m).X, 0, none⟩), .pointer (some ⟨(f m).R, 0, none⟩)]

theorem pv_length (f : Nat → Pr) (m : Nat) : (pv f m).length = m * 2 := by
  induction m with
  | zero => rfl
  | succ m ih => rw [pv, List.length_append, ih]; simp; omega

theorem pv_congr {f g : Nat → Pr} {m : Nat} (h : ∀ i, i < m → (f i).X = (g i).X ∧ (f i).R = (g i).R) : pv f m = pv g m := by
  induction m with
  | zero => rfl
  | succ m ih => rw [pv, pv, ih fun i hi => h i (by omega), (h m (by omega)).1, (h m (by omega)).2]

theorem pv_get (f : Nat → Pr) (m i : Nat) (hi : i < m) : (pv f m)[i * 2]? = some (.pointer (some ⟨(f i).X, 0, none⟩)) ∧ (pv f m)[i * 2 + 1]? = some (.pointer (some ⟨(f i).R, 0, none⟩)) := by
  induction m with
  | zero => omega
  | succ m ih =>
    rw [pv]
    by_cases e : i = m
    · subst e
      rw [List.getElem?_append_right (by rw [pv_length]; omega), List.getElem?_append_right (by rw [pv_length]; omega), pv_length, show i * 2 - i * 2 = 0 by omega, show i * 2 + 1 - i * 2 = 1 by omega]
      exact ⟨rfl, rfl⟩
    · have := ih (by omega)
      rw [List.getElem?_append_left (by rw [pv_length]; omega), List.getElem?_append_left (by rw [pv_length]; omega)]
      exact this

/-- m sessions, and the list of their pointers -/
structure All (w : World) (B : Nat) (v : Value) (m : Nat) (f : Nat → Pr) : Prop where
  own : w.ownsRow B 41 2 v m (pv f m)
  at_ : ∀ i, i < m → PairAt w B (f i)
  far : ∀ i j, i < m → j < m → i ≠ j → Far (f i) (f j)
  nil : m = 0 → v = .slice none 0 0

theorem All.up {w w' : World} {B : Nat} {v : Value} {m : Nat} {f : Nat → Pr} (h : All w B v m f) (hu : Up w w') : All w' B v m f :=
  ⟨row_up h.own hu, fun i hi => (h.at_ i hi).up hu, h.far, h.nil⟩

theorem All.head {w : World} {B : Nat} {v : Value} {m : Nat} {f : Nat → Pr} (h : All w B v m f) (hm : 0 < m) : ∃ g c, v = .slice (some ⟨g, 0, none⟩) m c ∧ B ≤ g ∧ g < w.heap.size ∧ ∀ i, i < m → w.cell? ⟨g, i * 2, none⟩ = some (.pointer (some ⟨(f i).X, 0, none⟩)) ∧ w.cell? ⟨g, i * 2 + 1, none⟩ = some (.pointer (some ⟨(f i).R, 0, none⟩)) := by
  have ho := h.own
  rcases ho.2 with ⟨_, h0⟩ | ⟨g, cap, cur, rfl, hB, h5, _⟩
  · omega
  · refine ⟨g, cap, rfl, hB, (Array.getElem?_eq_some_iff.1 h5).1, fun i hi => ?_⟩
    have a := World.ownsRow.cellAt ho (i * 2) (by omega)
    have b := World.ownsRow.cellAt ho (i * 2 + 1) (by omega)
    rw [(pv_get f m i hi).1] at a
    rw [(pv_get f m i hi).2] at b
    exact ⟨a, b⟩

theorem row_mut {S : Nat → Prop} {w w' : World} {base size k : Nat} {e : TypeId} {v : Value} {xs : List Value} (h : w.ownsRow base e size v k xs) (m : Mut S w w') (hn : ∀ g, v.ownBlock = some g → ¬ S g) : w'.ownsRow base e size v k xs := by
  refine ⟨h.1, ?_⟩
  rcases h.2 with h2 | ⟨g, cap, cur, rfl, h4, h5, h6⟩
  · exact Or.inl h2
  · exact Or.inr ⟨g, cap, cur, rfl, h4, by rw [m.block g (Array.getElem?_eq_some_iff.1 h5).1 (hn g rfl)]; exact h5, h6⟩

theorem All.block {w : World} {B : Nat} {v : Value} {m : Nat} {f : Nat → Pr} (h : All w B v m f) {g : Nat} (hg : v.ownBlock = some g) : 0 < m ∧ ∃ a, w.cell? ⟨g, 0, none⟩ = some (.pointer a) := by
  have hm : 0 < m := by
    rcases Nat.eq_zero_or_pos m with e | e
    · rw [h.nil e] at hg
      cases hg
    · exact e
  obtain ⟨g', c, rfl, _, _, hc⟩ := h.head hm
  simp only [Value.ownBlock, Option.some.injEq] at hg
  subst hg
  exact ⟨hm, _, (hc 0 hm).1⟩

/-- a block that begins with a pointer, no part of the list, is stored into -/
theorem All.ptr {w w' : World} {B G : Nat} {v : Value} {m : Nat} {f : Nat → Pr} {a : Option Addr} (h : All w B v m f) (mu : Mut (fun k => k = G) w w') (hc : w.cell? ⟨G, 0, none⟩ = some (.pointer a)) (hG : v.ownBlock ≠ some G) : All w' B v m f :=
  ⟨row_mut h.own mu (fun g hg e => hG (by rw [hg, e])), fun i hi => (h.at_ i hi).ptr mu hc, h.far, h.nil⟩

/-- something was done on session i -/
theorem All.moved {w w' : World} {B : Nat} {v : Value} {m : Nat} {f : Nat → Pr} {p' : Pr} {i : Nat} (h : All w B v m f) (hi : i < m) (mv : Moved w w' B (f i) p') : All w' B v m (fun j => if j = i then p' else f j) := by
  have hf : ∀ a, PairAt w B a → Far a (f i) → Far a p' := fun a ha hfa => by
    refine ⟨by rw [mv.X]; exact hfa.X, by rw [mv.R]; exact hfa.R, fun g hg hc => ?_⟩
    rcases mv.vd with e | ⟨g', e, hg'⟩
    · exact hfa.D g hg (by rw [← e]; exact hc)
    · have hl := (World.ownsRow.lt ha.own g hg).2
      rw [e] at hc
      have := Option.some.inj hc
      omega
  refine ⟨?_, fun j hj => ?_, fun a b ha hb hab => ?_, h.nil⟩
  · rw [pv_congr (g := f) (fun j hj => by
      by_cases e : j = i
      · subst e; rw [if_pos rfl]; exact ⟨mv.X, mv.R⟩
      · rw [if_neg e]; exact ⟨rfl, rfl⟩)]
    refine row_mut h.own mv.turned (fun g hg e => ?_)
    obtain ⟨_, a, ha⟩ := h.block hg
    have hp := h.at_ i hi
    obtain ⟨p1, x, y, vt, vr, nx, vc, vs, v0, v1, v2, h1⟩ := hp.S.sc
    rcases e with rfl | rfl | e
    · rw [h1.c0] at ha
      cases ha
    · rw [hp.C.c0] at ha
      cases ha
    · obtain ⟨d, hd⟩ := hp.own.head hp.h0 e.symm
      rw [ha] at hd
      cases hd
  · by_cases e : j = i
    · subst e; rw [if_pos rfl]; exact mv.at_
    · rw [if_neg e]; exact mv.others _ (h.at_ j hj) (h.far j i hj hi e)
  · by_cases ea : a = i
    · subst ea
      rw [if_pos rfl, if_neg (fun c => hab c.symm)]
      exact (hf _ (h.at_ b hb) (h.far b a hb ha (fun c => hab c.symm))).symm
    · by_cases eb : b = i
      · subst eb
        rw [if_neg ea, if_pos rfl]
        exact hf _ (h.at_ a ha) (h.far a b ha hb ea)
      · rw [if_neg ea, if_neg eb]
        exact h.far a b ha hb hab

/-- one session more -/
theorem All.more {w0 w w' : World} {B : Nat} {v v' : Value} {m : Nat} {f : Nat → Pr} {p : Pr} (h : All w B v m f) (hp : PairAt w B p) (hn : p.vd = .slice none 0 0) (h0 : All w0 B v m f) (hX : w0.heap.size ≤ p.X) (hR : w0.heap.size ≤ p.R) (ho : w'.ownsRow B 41 2 v' (m + 1) (pv f m ++ [.pointer (some ⟨p.X, 0, none⟩), .pointer (some ⟨p.R, 0, none⟩)])) (hg : w.grownBy w' v.ownBlock) : All w' B v' (m + 1) (fun j => if j = m then p else f j) := by
  have hk : ∀ a, PairAt w B a → PairAt w' B a := fun a ha => by
    cases e : v.ownBlock with
    | none => rw [e] at hg; exact ha.up (Up.made hg)
    | some g =>
      obtain ⟨_, b, hb⟩ := h.block e
      exact ha.ptr (grown_mut (S := fun k => k = g) hg (fun k c => by rw [e] at c; exact Option.some.inj c)) hb
  have hfa : ∀ i, i < m → Far (f i) p := fun i hi => by
    have ha := h0.at_ i hi
    have h1 := ha.S.lt
    have h2 := ha.C.lt
    exact ⟨by omega, by omega, fun g _ c => by rw [hn] at c; cases c⟩
  refine ⟨?_, fun j hj => ?_, fun a b ha hb hab => ?_, fun c => by omega⟩
  · rw [pv, if_pos rfl, pv_congr (g := f) (fun j hj => by rw [if_neg (by omega)]; exact ⟨rfl, rfl⟩)]
    exact ho
  · by_cases e : j = m
    · rw [if_pos e]; exact hk _ hp
    · rw [if_neg e]; exact hk _ (h.at_ j (by omega))
  · by_cases ea : a = m
    · rw [if_pos ea, if_neg (by omega)]
      exact (hfa b (by omega)).symm
    · by_cases eb : b = m
      · rw [if_neg ea, if_pos eb]
        exact hfa a (by omega)
      · rw [if_neg ea, if_neg eb]
        exact h.far a b (by omega) (by omega) hab

theorem info_lpair : (Tryz.prog.info? 41).map (fun i => (i.zero, i.size, i.bytes)) = some (some (.agg #[.pointer none, .pointer none]), 2, 16) := by kernel_rfl

/-- l = append(l, p) -/
theorem append_lpair {ops : Array Oper} {rest : List Oper} {o : Oper} {a : Act} {Q : Exit → Act → World → Prop} (w : World) (y0 y1 : Value) (hy0 : y0.oneCell' = true) (hy1 : y1.oneCell' = true) (hgd : o.guard = none) (s x : Operand)
    (ho : o.op = .call { callee := .builtin .append, args := #[s, x], argTypes := #[35, 35] })
    (base : Nat) (v : Value) (k : Nat) (xs : List Value) (hs : a.eval s = v) (hown : w.ownsRow base 41 2 v k xs) (mm : Nat) (hx : a.eval x = .slice (some ⟨mm, 0, none⟩) 1 1) (hmm : mm = w.heap.size)
    (hlen : k ≤ 4398046511104) (hbase : base ≤ w.heap.size)
    (h : ∀ v' w', w'.ownsRow base 41 2 v' (k + 1) (xs ++ [y0, y1]) → w.grownBy w' v.ownBlock → Below base w w' → wpList Tryz.prog ops Q rest (a.put o.dst v') w') :
    wpList Tryz.prog ops Q (o :: rest) a (w.alloc (.cells #[y0, y1] 41)) := by
  subst hmm
  obtain ⟨i0, hi, hz0, hz1, hz2⟩ := info_parts info_lpair
  refine wpList_append_own_at _ hgd s x 35 ho base 41 i0 (.agg #[.pointer none, .pointer none]) 2 16 Tryz.underlying35 hi hz0 hz1 hz2 rfl (by decide) v k xs hs (World.ownsRow.alloc hown _)
    ⟨w.heap.size, 0, none⟩ 1 1 [y0, y1] hx rfl ?_ ?_ ?_ ?_ ?_ ?_
  · intro j u hj
    match j, hj with
    | 0, hj => simp at hj; subst hj; simp [Addr.add]
    | 1, hj => simp at hj; subst hj; simp [Addr.add]
  · intro u hu
    simp at hu
    rcases hu with rfl | rfl
    · exact hy0
    · exact hy1
  · unfold maxLen; omega
  · omega
  · simp; omega
  · intro v' w' h1 h2 h3 h4
    have hg : w.grownBy w' v.ownBlock := ⟨h2.os, h2.tape, h2.output, Nat.le_trans (by simp) h2.size, fun k hk hne => (h2.block k (by simp; omega) hne).trans (heap_alloc_old w _ hk)⟩
    refine h v' w' h1 hg ?_
    exact (Below.refl _ _).grown hg hbase (fun k hk => (World.ownsRow.lt hown k hk).1)

end Go.Proofs.YtcjhgbljhpflfabGreat
