/-
  Walks: small tools; the reference's Mod and Fits.
-/
import Derived.Test.YtjiekfplgmfgiabGreatRows
import Derived.Test.YtjiekfplgmfgiabGreatMath
import Derived.WalkKit
import Derived.WalkSpells
import Derived.WalkLawsBesides
namespace Go.Proofs.YtjiekfplgmfgiabGreat
open Go.RowKit
set_option linter.unusedVariables false

theorem ret_bool {a b : Bool} (h : a = b) : Ending.returned (.bool a) = .returned (.bool b) := by rw [h]

theorem ret_int {k : IntKind} {a b : Int} (h : a = b) : Ending.returned (.int k a) = .returned (.int k b) := by rw [h]

set_option maxHeartbeats 400000 in
/-- Mod -/
theorem Mod_calls (v m : Int) (w : World) (hm : 0 < m) (hm2 : m ≤ 4611686018427387904) :
    Calls Tryz.prog 65 #[.int .i64 v, .int .i64 m] w fun e w' => e = .returned (.int .i64 (v % m)) ∧ w' = w := by
  by_cases hv : 0 ≤ v
  · have h1 := Int.emod_nonneg v (b := m) (by omega)
    have h2 := Int.emod_lt_of_pos v hm
    go_enter Tryz.func65, Tryz.ntmps65
    go_wp2
    go_ret
    exact ⟨rfl, rfl⟩
  · have h1 := Int.emod_nonneg v (b := m) (by omega)
    have h2 := Int.emod_lt_of_pos v hm
    have H : Hid _ := tmod_two v m hm
    have h3 : -4611686018427387904 ≤ v.tmod m := by have := H.out; omega
    have h4 : v.tmod m ≤ 4611686018427387904 := by have := H.out; omega
    go_enter Tryz.func65, Tryz.ntmps65
    go_wp2
    · go_ret
      refine ⟨ret_int ?_, rfl⟩
      have := H.out
      omega
    · go_ret
      refine ⟨ret_int ?_, rfl⟩
      have := H.out
      omega

/-- nothing that was there has turned -/
abbrev Up (w w' : World) : Prop := Below w.heap.size w w'

theorem Up.refl (w : World) : Up w w := Below.refl _ _

theorem Up.trans {a b c : World} (h : Up a b) (k : Up b c) : Up a c := Below.trans h (k.mono h.size)

theorem Up.alloc {a b : World} (h : Up a b) (o : Obj) : Up a (b.alloc o) := Below.alloc h h.size o

theorem Up.drew {a b : World} (h : Up a b) : Up a b.drew := Below.drew h

set_option maxHeartbeats 400000 in
theorem refFits_calls (n t q b e : Int) (w : World) (ht : 1 ≤ t) (ht2 : t ≤ 1021) (hq : 0 ≤ q) (hq2 : q ≤ 1073741823) (he : 0 ≤ e) (he2 : e ≤ 1125899906842624) :
    Calls Tryz.prog 48 #[.agg #[.int .i64 n, .int .i64 t, .int .i64 q, .int .i64 b], .int .i64 e] w fun r w' => r = .returned (.bool (fitsB t q e)) ∧ Up w w' := by
  have h1 := Int.emod_nonneg q (b := t) (by omega)
  have h2 := Int.emod_lt_of_pos q (b := t) (by omega)
  have h3 : 0 ≤ t * e := Int.mul_nonneg (by omega) he
  have h4 : t * e ≤ 1021 * 1125899906842624 := Int.mul_le_mul ht2 he2 he (by omega)
  have h5 : 0 ≤ q % t * (t - 1) := Int.mul_nonneg h1 (by omega)
  have h6 : q % t * (t - 1) ≤ 1021 * 1021 := Int.mul_le_mul (by omega) (by omega) (by omega) (by omega)
  go_enter Tryz.func48, Tryz.ntmps48
  go_wp2_with (go_at_call 65; refine (Mod_calls _ _ _ (by omega) (by omega)).mono ?_; rintro e w' ⟨rfl, rfl⟩)
  go_ret
  exact ⟨rfl, (Up.refl _).alloc _⟩

end Go.Proofs.YtjiekfplgmfgiabGreat
