/-
  DEEPER: one skip more makes no time less; where the walls lie.
-/
import Derived.Test.YtpphnnbijmoodaaStraight
import Derived.Test.YtpphnnbijmoodaaSym
import Derived.Test.YtpphnnbijmoodaaWalls
set_option linter.unusedVariables false
set_option linter.unusedSimpArgs false
namespace Go.Proofs.Ytpphnnbijmoodaa
open Go.RowKit

theorem lHi_deep {a h k : Int} (ha : -200000 ≤ a ∧ a ≤ 200000) (hk : 0 ≤ h ∧ h ≤ k ∧ k ≤ 200000) : lHi a h ≤ lHi a k := by
  obtain ⟨n0, -, n2, n3, -, -, -, -⟩ := len_spec ha (show -200000 ≤ k ∧ k ≤ 200000 by omega)
  refine lHi_le ha (by omega) (by omega) ?_
  have : h * h ≤ k * k := sq_mono hk.1 hk.2.1
  unfold sqm at *
  omega
def more (m : Md) : Md := ⟨m.Wedge, m.Metal, m.Skips + 1, m.Thick⟩
theorem ok_more {m : Md} (h : okM m) (hS : m.Skips < 4) : okM (more m) := by
  obtain ⟨h1, h2, h3, h4⟩ := h
  exact ⟨h1, h2, by show 0 ≤ m.Skips + 1 ∧ m.Skips + 1 ≤ 4; omega, h4⟩
theorem unf_more {m : Md} {z : Int} (hz : 1 ≤ z ∧ z ≤ m.Thick - 1) : unf m z ≤ unf (more m) z := by
  unfold unf more
  simp only
  rw [Int.add_mul, Int.one_mul]
  by_cases h : m.Skips % 2 = 1
  · rw [if_pos h, if_neg (by omega)]; omega
  · rw [if_neg h, if_pos (by omega)]; omega
theorem deeper {x y : Cr} (h : okC x) (hy : okC y) (e1 : y.X1 = x.X1) (e2 : y.H1 = x.H1) (e3 : y.V1 = x.V1) (e4 : y.X2 = x.X2) (e5 : x.H2 ≤ y.H2) (e6 : y.V2 = x.V2) : lsL x ≤ lsH y :=
  lsH_ge hy fun t ht => by
    have hx : inC x t := by unfold inC at *; rw [e1, e4] at ht; exact ht
    have b := in_rng h hx
    have a := lsL_le h b.1 b.2
    have l := lHi_deep (a := x.X2 - t) (h := x.H2) (k := y.H2) b.2 ⟨by have := h.2.2.2.1; omega, e5, by have := hy.2.2.2.1; omega⟩
    have c := tup_mono (v := x.V2) (by have := h.2.2.2.2.2; omega) l
    unfold tH at *
    rw [e1, e2, e3, e4, e6]
    omega
theorem deeper_m {m : Md} {fx fz tx tz : Int} (h : okM m) (hw : okW m fx fz tx tz) (hS : m.Skips < 4) : lsL (crM m fx fz tx tz) ≤ lsH (crM (more m) fx fz tx tz) :=
  deeper (okC_of h hw) (okC_of (ok_more h hS) hw) rfl rfl rfl rfl (unf_more hw.2.2.2) rfl
theorem cdiv_fl (n : Int) {b : Int} (hb : 1 ≤ b) : n / b ≤ cdiv n b ∧ cdiv n b ≤ n / b + 1 := by
  unfold cdiv
  have a1 := Int.ediv_mul_le n (b := b) (by omega)
  have a2 := Int.lt_ediv_add_one_mul_self n (b := b) (by omega)
  have c1 := Int.ediv_mul_le (-n) (b := b) (by omega)
  have c2 := Int.lt_ediv_add_one_mul_self (-n) (b := b) (by omega)
  generalize n / b = p at *
  generalize (-n) / b = q at *
  rw [Int.add_mul, Int.one_mul] at a2 c2
  constructor
  · rcases Int.lt_or_le (-q) p with k | k
    · have : (1 : Int) * b ≤ (p + q) * b := Int.mul_le_mul_of_nonneg_right (by omega) (by omega)
      rw [Int.add_mul] at this
      omega
    · exact k
  · rcases Int.lt_or_le (p + 1) (-q) with k | k
    · have : (p + q + 2) * b ≤ 0 * b := Int.mul_le_mul_of_nonneg_right (by omega) (by omega)
      rw [Int.add_mul, Int.add_mul] at this
      omega
    · exact k
theorem frac_in {d a u : Int} (ha : 0 ≤ a) (hau : a ≤ u) (hu : 1 ≤ u) : min 0 d ≤ d * a / u ∧ d * a / u ≤ max 0 d := by
  rcases Int.lt_or_le d 0 with k | k
  · have h1 : d * u ≤ d * a := Int.mul_le_mul_of_nonpos_left (by omega) hau
    have h2 : d * a ≤ 0 * u := by have := Int.mul_le_mul_of_nonneg_right (show d ≤ 0 by omega) ha; omega
    have h3 : d ≤ d * a / u := (Int.le_ediv_iff_mul_le (by omega)).2 h1
    have h4 : d * a / u ≤ 0 := Int.ediv_le_of_le_mul (by omega) h2
    omega
  · have h1 : d * a ≤ d * u := Int.mul_le_mul_of_nonneg_left hau k
    have h3 : d * a / u ≤ d := Int.ediv_le_of_le_mul (by omega) h1
    have h4 : 0 ≤ d * a / u := Int.ediv_nonneg (Int.mul_nonneg k ha) (by omega)
    omega
theorem wall_ok {m : Md} {fx fz tx tz : Int} (h : okM m) (hw : okW m fx fz tx tz) {j : Nat} (hj : j < m.Skips.toNat) :
    (min fx tx ≤ plc (crM m fx fz tx tz) + wX (crM m fx fz tx tz) (plc (crM m fx fz tx tz)) m.Thick j / unf m tz ∧ plc (crM m fx fz tx tz) + wX (crM m fx fz tx tz) (plc (crM m fx fz tx tz)) m.Thick j / unf m tz ≤ max fx tx) ∧
    plc (crM m fx fz tx tz) + wX (crM m fx fz tx tz) (plc (crM m fx fz tx tz)) m.Thick j / unf m tz ≤ plc (crM m fx fz tx tz) + cdiv (wX (crM m fx fz tx tz) (plc (crM m fx fz tx tz)) m.Thick j) (unf m tz) ∧
    plc (crM m fx fz tx tz) + cdiv (wX (crM m fx fz tx tz) (plc (crM m fx fz tx tz)) m.Thick j) (unf m tz) ≤ plc (crM m fx fz tx tz) + wX (crM m fx fz tx tz) (plc (crM m fx fz tx tz)) m.Thick j / unf m tz + 1 := by
  have hk := plc_in (okC_of h hw)
  have hu := unf_bd h hw.2.2.2
  have hT := h.2.2.2
  have a1 : ((j : Int) + 1) * m.Thick ≤ m.Skips * m.Thick := Int.mul_le_mul_of_nonneg_right (by omega) (by omega)
  have a0 : 0 ≤ ((j : Int) + 1) * m.Thick := Int.mul_nonneg (by omega) (by omega)
  have u1 : m.Skips * m.Thick ≤ unf m tz := by have := hw.2.2.2; unfold unf; split <;> omega
  have e : wX (crM m fx fz tx tz) (plc (crM m fx fz tx tz)) m.Thick j = (tx - plc (crM m fx fz tx tz)) * (((j : Int) + 1) * m.Thick) := by unfold wX; exact Int.mul_assoc _ _ _
  have f := frac_in (d := tx - plc (crM m fx fz tx tz)) a0 (by omega : ((j : Int) + 1) * m.Thick ≤ unf m tz) hu.1
  have c := cdiv_fl ((tx - plc (crM m fx fz tx tz)) * (((j : Int) + 1) * m.Thick)) hu.1
  rw [e]
  unfold inC at hk
  have e1 : (crM m fx fz tx tz).X1 = fx := rfl
  have e2 : (crM m fx fz tx tz).X2 = tx := rfl
  rw [e1, e2] at hk
  omega
end Go.Proofs.Ytpphnnbijmoodaa
