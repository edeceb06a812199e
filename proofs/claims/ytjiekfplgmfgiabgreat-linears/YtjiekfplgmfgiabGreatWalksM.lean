/-
  A matrix in memory: rows of numbers, each in a block of its own, and their headers in one block; the reference's solve.
-/
import Derived.Test.YtjiekfplgmfgiabGreatWalksY
import Derived.StillTailTactics
namespace Go.Proofs.YtjiekfplgmfgiabGreat
open Go.RowKit
set_option linter.unusedVariables false

structure MatAt (w : World) (B H n m : Nat) (gs caps : Nat → Nat) (A : Nat → Nat → Int) : Prop where
  hH : B ≤ H ∧ H < w.heap.size
  hg : ∀ j, j < n → B ≤ gs j ∧ gs j < w.heap.size ∧ gs j ≠ H
  inj : ∀ j k, j < n → k < n → gs j = gs k → j = k
  head : ∀ j, j < n → w.cell? ⟨H, j, none⟩ = some (.slice (some ⟨gs j, 0, none⟩) m (caps j))
  headf : ∀ j, j < n → w.frozen? ⟨H, j, none⟩ = false
  cell : ∀ j c, j < n → c < m → w.cell? ⟨gs j, c, none⟩ = some (.int .i64 (A j c))
  cellf : ∀ j c, j < n → c < m → w.frozen? ⟨gs j, c, none⟩ = false

theorem MatAt.congr {w : World} {B H n m : Nat} {gs caps : Nat → Nat} {A A' : Nat → Nat → Int} (h : MatAt w B H n m gs caps A) (e : ∀ j c, j < n → c < m → A j c = A' j c) : MatAt w B H n m gs caps A' :=
  ⟨h.hH, h.hg, h.inj, h.head, h.headf, fun j c hj hc => by rw [← e j c hj hc]; exact h.cell j c hj hc, h.cellf⟩

theorem MatAt.up {w w' : World} {B H n m : Nat} {gs caps : Nat → Nat} {A : Nat → Nat → Int} (h : MatAt w B H n m gs caps A) (hu : Up w w') : MatAt w' B H n m gs caps A :=
  ⟨⟨h.hH.1, Nat.lt_of_lt_of_le h.hH.2 hu.size⟩, fun j hj => ⟨(h.hg j hj).1, Nat.lt_of_lt_of_le (h.hg j hj).2.1 hu.size, (h.hg j hj).2.2⟩, h.inj,
    fun j hj => (hu.cell (p := ⟨H, j, none⟩) h.hH.2).trans (h.head j hj), fun j hj => (hu.frozen (p := ⟨H, j, none⟩) h.hH.2).trans (h.headf j hj),
    fun j c hj hc => (hu.cell (p := ⟨gs j, c, none⟩) (h.hg j hj).2.1).trans (h.cell j c hj hc), fun j c hj hc => (hu.frozen (p := ⟨gs j, c, none⟩) (h.hg j hj).2.1).trans (h.cellf j c hj hc)⟩

theorem addr_ne {b b' o o' : Nat} (h : b ≠ b' ∨ o ≠ o') : (⟨b, o, none⟩ : Addr) ≠ ⟨b', o', none⟩ := by
  intro c
  injection c with c1 c2
  rcases h with h | h
  · exact h c1
  · exact h c2

/-- a store into a row -/
theorem MatAt.set {w : World} {B H n m : Nat} {gs caps : Nat → Nat} {A : Nat → Nat → Int} (h : MatAt w B H n m gs caps A) (j c : Nat) (hj : j < n) (hc : c < m) (x : Int) :
    MatAt (w.setCell ⟨gs j, c, none⟩ (.int .i64 x)) B H n m gs caps (fun j' c' => if j' = j ∧ c' = c then x else A j' c') := by
  refine ⟨by simpa using h.hH, fun k hk => by simpa using h.hg k hk, h.inj, ?_, fun k hk => by simpa using h.headf k hk, ?_, fun k d hk hd => by simpa using h.cellf k d hk hd⟩
  · intro k hk
    rw [World.cell?_setCell_other _ _ _ _ (addr_ne (Or.inl (h.hg j hj).2.2))]
    exact h.head k hk
  · intro k d hk hd
    by_cases e : k = j ∧ d = c
    · obtain ⟨rfl, rfl⟩ := e
      rw [World.cell?_setCell_same _ _ _ (h.cell k d hk hd), if_pos ⟨rfl, rfl⟩]
    · rw [if_neg e, World.cell?_setCell_other _ _ _ _ (addr_ne ?_)]
      · exact h.cell k d hk hd
      · by_cases e1 : d = c
        · refine Or.inl fun e2 => e ⟨(h.inj j k hj hk e2).symm, e1⟩
        · exact Or.inr fun e2 => e1 e2.symm

/-- rows i and k change places -/
def sw (i k j : Nat) : Nat := if j = i then k else if j = k then i else j

theorem sw_lt {i k j n : Nat} (hi : i < n) (hk : k < n) (hj : j < n) : sw i k j < n := by
  unfold sw; split
  · exact hk
  · split
    · exact hi
    · exact hj

theorem sw_inj {i k a b : Nat} (h : sw i k a = sw i k b) : a = b := by
  unfold sw at h
  split at h <;> split at h <;> (try split at h) <;> (try split at h) <;> omega

theorem MatAt.swap {w : World} {B H n m : Nat} {gs caps : Nat → Nat} {A : Nat → Nat → Int} (h : MatAt w B H n m gs caps A) (i k : Nat) (hi : i < n) (hk : k < n) :
    MatAt ((w.setCell ⟨H, k, none⟩ (.slice (some ⟨gs i, 0, none⟩) m (caps i))).setCell ⟨H, i, none⟩ (.slice (some ⟨gs k, 0, none⟩) m (caps k))) B H n m
      (fun j => gs (sw i k j)) (fun j => caps (sw i k j)) (fun j c => A (sw i k j) c) := by
  refine ⟨by simpa using h.hH, fun j hj => by simpa using h.hg _ (sw_lt hi hk hj), fun a b ha hb e => sw_inj (h.inj _ _ (sw_lt hi hk ha) (sw_lt hi hk hb) e), ?_, fun j hj => by simpa using h.headf j hj, ?_, fun j c hj hc => by simpa using h.cellf _ c (sw_lt hi hk hj) hc⟩
  · intro j hj
    obtain ⟨v', hv'⟩ := cell?_setCell_some (p := ⟨H, k, none⟩) (x := .slice (some ⟨gs i, 0, none⟩) m (caps i)) (h.head i hi)
    by_cases e1 : j = i
    · subst e1
      rw [World.cell?_setCell_same _ _ _ hv']
      simp [sw]
    · rw [World.cell?_setCell_other _ _ _ _ (addr_ne (Or.inr fun e => e1 e.symm))]
      by_cases e2 : j = k
      · subst e2
        rw [World.cell?_setCell_same _ _ _ (h.head j hj)]
        simp [sw, e1]
      · rw [World.cell?_setCell_other _ _ _ _ (addr_ne (Or.inr fun e => e2 e.symm)), h.head j hj]
        simp [sw, e1, e2]
  · intro j c hj hc
    have hne := (h.hg _ (sw_lt hi hk hj)).2.2
    rw [World.cell?_setCell_other _ _ _ _ (addr_ne (Or.inl fun e => hne e.symm)), World.cell?_setCell_other _ _ _ _ (addr_ne (Or.inl fun e => hne e.symm))]
    exact h.cell _ c (sw_lt hi hk hj) hc

/-- row i is scaled up to place d -/
def scM (A1 : Nat → Nat → Int) (p : Nat → Int) (i d j c : Nat) : Int := if j = i ∧ c < d then p c else A1 j c

/-- row i is scaled, and taken out of the rows below k -/
def elM (A1 : Nat → Nat → Int) (p : Nat → Int) (i : Nat) (t : Int) (k j c : Nat) : Int :=
  if j = i then p c else if j < k then (A1 j c - A1 j i * p c) % t else A1 j c

/-- and out of row k up to place d -/
def elR (A1 : Nat → Nat → Int) (p : Nat → Int) (i : Nat) (t : Int) (k d j c : Nat) : Int :=
  if j = k ∧ c < d then (A1 k c - A1 k i * p c) % t else elM A1 p i t k j c

theorem scM_step (A1 : Nat → Nat → Int) (p : Nat → Int) (i d j c : Nat) : (if j = i ∧ c = d then p d else scM A1 p i d j c) = scM A1 p i (d + 1) j c := by
  unfold scM
  by_cases h1 : j = i
  · subst h1
    by_cases h2 : c = d
    · subst h2; simp
    · by_cases h3 : c < d
      · rw [if_neg (fun e => h2 e.2), if_pos ⟨rfl, h3⟩, if_pos ⟨rfl, by omega⟩]
      · rw [if_neg (fun e => h2 e.2), if_neg (fun e => h3 e.2), if_neg (fun e => h3 (by omega))]
  · rw [if_neg (fun e => h1 e.1), if_neg (fun e => h1 e.1), if_neg (fun e => h1 e.1)]

theorem scM_end (A1 : Nat → Nat → Int) (p : Nat → Int) (i m : Nat) (t : Int) (j c : Nat) (hc : c < m) : scM A1 p i m j c = elM A1 p i t 0 j c := by
  unfold scM elM
  by_cases h1 : j = i
  · rw [if_pos ⟨h1, hc⟩, if_pos h1]
  · rw [if_neg (fun e => h1 e.1), if_neg h1, if_neg (Nat.not_lt_zero j)]

theorem elR_start (A1 : Nat → Nat → Int) (p : Nat → Int) (i : Nat) (t : Int) (k j c : Nat) : elM A1 p i t k j c = elR A1 p i t k 0 j c := by
  unfold elR
  rw [if_neg (fun e => Nat.not_lt_zero c e.2)]

theorem elR_step (A1 : Nat → Nat → Int) (p : Nat → Int) (i : Nat) (t : Int) (k d j c : Nat) : (if j = k ∧ c = d then (A1 k d - A1 k i * p d) % t else elR A1 p i t k d j c) = elR A1 p i t k (d + 1) j c := by
  unfold elR
  by_cases h1 : j = k
  · subst h1
    by_cases h2 : c = d
    · subst h2; simp
    · by_cases h3 : c < d
      · rw [if_neg (fun e => h2 e.2), if_pos ⟨rfl, h3⟩, if_pos ⟨rfl, by omega⟩]
      · rw [if_neg (fun e => h2 e.2), if_neg (fun e => h3 e.2), if_neg (fun e => h3 (by omega))]
  · rw [if_neg (fun e => h1 e.1), if_neg (fun e => h1 e.1), if_neg (fun e => h1 e.1)]

theorem elR_end (A1 : Nat → Nat → Int) (p : Nat → Int) (i m : Nat) (t : Int) (k j c : Nat) (hk : k ≠ i) (hc : c < m) : elR A1 p i t k m j c = elM A1 p i t (k + 1) j c := by
  unfold elR elM
  by_cases h1 : j = k
  · subst h1
    rw [if_pos ⟨rfl, hc⟩, if_neg hk, if_pos (Nat.lt_succ_self j)]
  · rw [if_neg (fun e => h1 e.1)]
    by_cases h2 : j = i
    · rw [if_pos h2, if_pos h2]
    · rw [if_neg h2, if_neg h2]
      by_cases h3 : j < k
      · rw [if_pos h3, if_pos (by omega)]
      · rw [if_neg h3, if_neg (by omega)]

theorem elM_skip (A1 : Nat → Nat → Int) (p : Nat → Int) (i : Nat) (t : Int) (j c : Nat) : elM A1 p i t i j c = elM A1 p i t (i + 1) j c := by
  unfold elM
  by_cases h2 : j = i
  · rw [if_pos h2, if_pos h2]
  · rw [if_neg h2, if_neg h2]
    by_cases h3 : j < i
    · rw [if_pos h3, if_pos (by omega)]
    · rw [if_neg h3, if_neg (by omega)]

theorem elM_end (A : Nat → Nat → Int) (i K n : Nat) (o t : Int) (j c : Nat) (hj : j < n) : elM (fun j c => A (sw i K j) c) (fun c => A (sw i K i) c * o % t) i t n j c = stepA A i K o t j c := by
  unfold elM stepA
  dsimp only
  have e : sw i K i = K := by simp [sw]
  by_cases h1 : j = i
  · rw [if_pos h1, if_pos h1, e]
  · rw [if_neg h1, if_neg h1, if_pos hj, e]
    have e2 : sw i K j = if j = K then i else j := by simp [sw, h1]
    rw [e2]

set_option maxRecDepth 100000 in
set_option maxHeartbeats 4000000 in
theorem solve_calls (n m i K : Nat) (t o : Int) (H hcap B : Nat) (gs caps : Nat → Nat) (A : Nat → Nat → Int) (w : World) (hm : MatAt w B H n m gs caps A) (hi : i < n) (him : i < m) (hK : i ≤ K) (hK2 : K < n)
    (hpiv : 1 ≤ A K i) (hz : ∀ j, i ≤ j → j < K → A j i = 0) (hbnd : ∀ j c, j < n → c < m → 0 ≤ A j c ∧ A j c < t) (ht : 2 ≤ t) (ht2 : t ≤ 1021) (ho : 1 ≤ o) (ho2 : o < t) (hinv : A K i * o % t = 1) (hn : n ≤ 16) (hm2 : m ≤ 17) :
    Calls Tryz.prog 82 #[.slice (some ⟨H, 0, none⟩) n hcap, .int .i64 i, .int .i64 t] w fun e w' => e = .returned (.tuple #[]) ∧ ∃ gs' caps', MatAt w' B H n m gs' caps' (stepA A i K o t) ∧ Below B w w' := by
  have HZ : Hid _ := hz
  have HB : Hid _ := hbnd
  have HI : Hid _ := hinv
  have HP : Hid _ := hpiv
  clear hz hbnd hinv hpiv
  go_enter Tryz.func82, Tryz.ntmps82
  go_wp2_with fail
  go_loop [6] (fun z => ∃ k : Nat, i ≤ k ∧ k ≤ K ∧ z = .int .i64 (k : Int)) (fun z => K - (intOf z).toNat)
  case atStart => exact ⟨i, Nat.le_refl _, hK, rfl⟩
  case round =>
    obtain ⟨k, hk1, hk2, rfl⟩ := hrel
    have hh := hm.head k (by omega)
    have hc := hm.cell k i (by omega) him
    by_cases hk : k = K
    · subst hk
      have hp := HP.out
      have hne : (A k i == 0) = false := beq_eq_false_iff_ne.2 (by omega)
      have hh2 := hm.head i hi
      have hf1 := hm.headf k hK2
      have hf2 := hm.headf i hi
      obtain ⟨v', hv'⟩ := cell?_setCell_some (p := ⟨H, k, none⟩) (x := .slice (some ⟨gs i, 0, none⟩) m (caps i)) hh2
      have hm2 := hm.swap i k hi hK2
      have hc2 := hm2.cell i i hi him
      have e : sw i k i = k := by simp [sw]
      rw [e] at hc2
      have hbe : Below B w ((w.setCell ⟨H, k, none⟩ (.slice (some ⟨gs i, 0, none⟩) m (caps i))).setCell ⟨H, i, none⟩ (.slice (some ⟨gs k, 0, none⟩) m (caps k))) := ((Below.refl _ _).setCell hm.hH.1 _).setCell hm.hH.1 _
      have hb0 := HB.out k i hK2 him
      by_cases hkn : k + 1 < n
      all_goals
        go_wp2_with fail
        refine (refInverse_calls _ _ o _ hb0.1 (by omega) (by omega) ho ho2 HI.out (fun x hx1 hx2 hx3 => by have := inv_unique (by omega) (by omega) (by omega) ho2 hx3 HI.out; omega)).mono ?_
        rintro e w' ⟨rfl, rfl⟩
        have hA1b : Hid (∀ j c, j < n → c < m → 0 ≤ A (sw i k j) c ∧ A (sw i k j) c < t) := fun j c hj hc' => HB.out _ c (sw_lt hi hK2 hj) hc'
        have HG : Hid (gs (sw i k i) = gs k) := congrArg gs e
        have HE : Hid (∀ j c, j < n → elM (fun j c => A (sw i k j) c) (fun c => A (sw i k i) c * o % t) i t n j c = stepA A i k o t j c) := fun j c hj => elM_end A i k n o t j c hj
        clear hc hh hh2 hf1 hf2 hv' hc2 hne hp hb0 hm
        generalize (w.setCell ⟨H, k, none⟩ (.slice (some ⟨gs i, 0, none⟩) m (caps i))).setCell ⟨H, i, none⟩ (.slice (some ⟨gs k, 0, none⟩) m (caps k)) = W2 at hm2 hbe ⊢
        generalize hpp : (fun c => A (sw i k i) c * o % t) = p at HE
        have HPP : Hid (∀ c, p c = A (sw i k i) c * o % t) := fun c => by rw [← hpp]
        clear hpp
        generalize hA1 : (fun j c => A (sw i k j) c) = A1 at hm2 HE
        have HA1 : Hid (∀ j c, A (sw i k j) c = A1 j c) := fun j c => by rw [← hA1]
        clear hA1
        have HPA : Hid (∀ c, p c = A1 i c * o % t) := fun c => by rw [HPP.out, HA1.out]
        have HAb : Hid (∀ j c, j < n → c < m → 0 ≤ A1 j c ∧ A1 j c < t) := fun j c hj hc' => by rw [← HA1.out]; exact hA1b.out j c hj hc'
        have HPb : Hid (∀ c, 0 ≤ p c ∧ p c < t) := fun c => by rw [HPP.out]; exact ⟨Int.emod_nonneg _ (by omega), Int.emod_lt_of_pos _ (by omega)⟩
        generalize hgs1 : (fun j => gs (sw i k j)) = gs1 at hm2
        have HG1 : Hid (gs1 i = gs k) := by
          show _ = _
          rw [← hgs1]
          exact HG.out
        have hBg : B ≤ gs k := by rw [← HG1.out]; exact (hm2.hg i hi).1
        clear hgs1 hA1b HPP HA1
        generalize (fun j => caps (sw i k j)) = caps1 at hm2
        go_wp2_with fail
        go_loopw [9] (fun z wr => ∃ d : Nat, d ≤ m ∧ z = .int .i64 (d : Int) ∧ MatAt wr B H n m gs1 caps1 (scM A1 p i d) ∧ Below B w wr) (fun z _ => m - (intOf z).toNat)
        case atStart => exact ⟨0, Nat.zero_le _, rfl, hm2.congr (fun j c _ _ => by simp [scM]), hbe⟩
        case round =>
          obtain ⟨d, hd, rfl, hmr, hbr⟩ := hrel
          by_cases hdm : d < m
          · have hcd := hmr.cell i d hi hdm
            have hfd := hmr.cellf i d hi hdm
            rw [HG1.out] at hcd hfd
            have hsc : scM A1 p i d i d = A1 i d := by
              unfold scM
              rw [if_neg (fun e => Nat.lt_irrefl _ e.2)]
            rw [hsc] at hcd
            have hab := HAb.out i d hi hdm
            have hset := (hmr.set i d hi hdm (p d)).congr (fun j c _ _ => scM_step A1 p i d j c)
            rw [HG1.out, HPA.out d] at hset
            have HS : Hid _ := hset
            generalize A1 i d = a at hcd hab HS
            have ha1 := hab.1
            have ha2 := hab.2
            have h3 : 0 ≤ a * o := Int.mul_nonneg ha1 (by omega)
            have h4 : a * o ≤ 1021 * 1021 := Int.mul_le_mul (by omega) (by omega) (by omega) (by omega)
            clear hab hset hsc hmr
            go_wp2_with fail
            go_roundw
            case rel => exact ⟨d + 1, by omega, by go_num, HS.out, hbr.setCell hBg _⟩
            case measure => simp [intOf]; omega
          · obtain rfl : d = m := by omega
            replace hmr := hmr.congr (fun j c _ hc' => scM_end A1 p i d t j c hc')
            go_wp2_with fail
            go_loopw [10] (fun z wx => ∃ r : Nat, r ≤ n ∧ z = .int .i64 (r : Int) ∧ MatAt wx B H n d gs1 caps1 (elM A1 p i t r) ∧ Below B w wx) (fun z _ => n - (intOf z).toNat)
            case atStart => exact ⟨0, Nat.zero_le _, rfl, hmr, hbr⟩
            case round =>
              obtain ⟨r, hr, rfl, hmx, hbx⟩ := hrel
              clear hmr hbr hm2 hbe
              by_cases hrn : r < n
              · by_cases hri : r = i
                · subst hri
                  have hne : ((r : Int) != (r : Int)) = false := by simp
                  go_wp2_with fail
                  go_roundw
                  case rel => exact ⟨r + 1, by omega, by go_num, hmx.congr (fun j c _ _ => elM_skip A1 p r t j c), hbx⟩
                  case measure => simp [intOf]; omega
                · have hne : ((r : Int) != (i : Int)) = true := by rw [bne_iff_ne]; omega
                  have hh := hmx.head r hrn
                  have hcf := hmx.cell r i hrn him
                  have hef : elM A1 p i t r r i = A1 r i := by
                    unfold elM
                    rw [if_neg hri, if_neg (Nat.lt_irrefl r)]
                  rw [hef] at hcf
                  have hfb := HAb.out r i hrn him
                  have HSt : Hid (∀ c, c < d → elR A1 p i t r c r c = A1 r c ∧ elR A1 p i t r c i c = p c) := fun c hc' => by
                    unfold elR elM
                    refine ⟨?_, ?_⟩
                    · rw [if_neg (fun e => Nat.lt_irrefl _ e.2), if_neg hri, if_neg (Nat.lt_irrefl r)]
                    · rw [if_neg (fun e => Nat.lt_irrefl _ e.2), if_pos rfl]
                  have hBr : B ≤ gs1 r := (hmx.hg r hrn).1
                  have HStep : Hid (∀ c j c', (if j = r ∧ c' = c then (A1 r c - A1 r i * p c) % t else elR A1 p i t r c j c') = elR A1 p i t r (c + 1) j c') := fun c j c' => elR_step A1 p i t r c j c'
                  generalize A1 r i = f at hcf hfb HStep
                  have hf1 := hfb.1
                  have hf2 := hfb.2
                  clear hfb hef
                  go_wp2_with fail
                  go_loopw [12] (fun z wy => ∃ c : Nat, c ≤ d ∧ z = .int .i64 (c : Int) ∧ MatAt wy B H n d gs1 caps1 (elR A1 p i t r c) ∧ Below B w wy) (fun z _ => d - (intOf z).toNat)
                  case atStart => exact ⟨0, Nat.zero_le _, rfl, hmx.congr (fun j c _ _ => elR_start A1 p i t r j c), hbx⟩
                  case round =>
                    obtain ⟨c, hcd, rfl, hmy, hby⟩ := hrel
                    clear hmx hbx hh hcf
                    by_cases hcm : c < d
                    · have hh := hmy.head r hrn
                      have hc1 := hmy.cell r c hrn hcm
                      have hc2 := hmy.cell i c hi hcm
                      have hff := hmy.cellf r c hrn hcm
                      rw [(HSt.out c hcm).1] at hc1
                      rw [(HSt.out c hcm).2, HG1.out] at hc2
                      have hab := HAb.out r c hrn hcm
                      have hpb := HPb.out c
                      have hset := (hmy.set r c hrn hcm ((A1 r c - f * p c) % t)).congr (fun j c' _ _ => HStep.out c j c')
                      have HS : Hid _ := hset
                      clear hset hmy
                      generalize A1 r c = a at hc1 hab HS
                      generalize p c = y at hc2 hpb HS
                      have h3 : 0 ≤ f * y := Int.mul_nonneg hf1 hpb.1
                      have h4 : f * y ≤ 1021 * 1021 := Int.mul_le_mul (by omega) (by omega) hpb.1 (by omega)
                      have e1 : IntKind.i64.wrap (f * y) = f * y := IntWalk.i64_in _ (by omega)
                      have e2 : IntKind.i64.wrap (a - f * y) = a - f * y := IntWalk.i64_in _ (by omega)
                      go_wp2_with fail
                      refine wp_region_still_tail 22 (by kernel_rfl) (by kernel_rfl) ?_
                      simp only [List.take_succ_cons, List.take_zero, List.drop_succ_cons, List.drop_zero]
                      repeat still_step
                      still_call (Mod_calls _ _ _ (by omega) (by omega))
                      still_step
                      refine wpStill_nil ?_
                      change wpList _ _ _ _ _ wr.drew
                      go_wp2_with fail
                      go_roundw
                      case rel => exact ⟨c + 1, by omega, by go_num, HS.out.up (Up.drew (Up.refl _)), (hby.setCell hBr _).drew⟩
                      case measure => simp [intOf]; omega


                    · obtain rfl : c = d := by omega
                      go_wp2_with fail
                      go_roundw
                      case rel => exact ⟨r + 1, by omega, by go_num, hmy.congr (fun j c' _ hc' => elR_end A1 p i c t r j c' hri hc'), hby⟩
                      case measure => simp [intOf]; omega
              · obtain rfl : r = n := by omega
                go_wp2_with fail
                go_end0
                exact ⟨rfl, gs1, caps1, hmx.congr (fun j c hj _ => HE.out j c hj), hbx⟩
    · have hz0 := HZ.out k hk1 (by omega)
      have hne : (A k i == 0) = true := by rw [hz0]; rfl
      have HZ0 : Hid _ := hz0
      clear hz0
      go_wp2_with fail
      go_round
      case rel => exact ⟨k + 1, by omega, by omega, by go_num⟩
      case measure => simp [intOf]; omega

end Go.Proofs.YtjiekfplgmfgiabGreat
