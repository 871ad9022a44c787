/-
  THE LEAST TIME IS THE LEAST: RayLeast returns true.
-/
import Derived.Test.YtpphnnbijmoodaaRayLeast
set_option linter.unusedVariables false
set_option linter.unusedSimpArgs false
namespace Go.Proofs.Ytpphnnbijmoodaa
open Go.RowKit

theorem lH_le {x z : Int} (hx : -200000 ≤ x ∧ x ≤ 200000) (hz : -200000 ≤ z ∧ z ≤ 200000) : lLo x z ≤ lHi x z := by
  have := len_spec hx hz
  omega
theorem tL_tH {x : Cr} {t : Int} (h : okC x) (ht : inC x t) : tL x t ≤ tH x t := by
  unfold tL tH
  have h2 := ht
  unfold inC at h2
  obtain ⟨a, b, c, d, e, f⟩ := h
  have l1 := lH_le (x := t - x.X1) (z := x.H1) (by omega) (by omega)
  have l2 := lH_le (x := x.X2 - t) (z := x.H2) (by omega) (by omega)
  exact tl_le (by omega) (by omega) (Int.add_le_add (Int.mul_le_mul_of_nonneg_left l1 (by omega)) (Int.mul_le_mul_of_nonneg_left l2 (by omega)))
theorem plc_in {x : Cr} (h : okC x) : inC x (plc x) := (plc_is h).1
theorem plc_next {x : Cr} (h : okC x) (hl : plc x < max x.X1 x.X2) : inC x (plc x + 1) := by
  have := plc_in h
  unfold inC at *
  omega
theorem ls_le {x : Cr} (h : okC x) : lsL x ≤ lsH x := by
  have hb := bnd_bd h
  have t0 := t_bd h (plc_in h)
  have e0 := tL_tH h (plc_in h)
  unfold lsL lsH pL
  split
  · rename_i hl
    have t1 := t_bd h (plc_next h hl)
    have e1 := tL_tH h (plc_next h hl)
    omega
  · omega
theorem lsH_le {x : Cr} (h : okC x) : lsH x ≤ tH x (plc x) := by
  unfold lsH
  split <;> omega
theorem lsL_nn (x : Cr) : 0 ≤ lsL x := by unfold lsL; omega
theorem in_bd {x : Cr} {t : Int} (h : okC x) (ht : inC x t) : (-200000 ≤ t - x.X1 ∧ t - x.X1 ≤ 200000) ∧ (-200000 ≤ x.X2 - t ∧ x.X2 - t ≤ 200000) := by
  unfold inC at ht
  obtain ⟨a, b, c, d, e, f⟩ := h
  omega
theorem slp_side {x : Cr} {t : Int} (h : okC x) (ht : inC x t) : t = plc x ∧ slp x t ≤ 0 ∨ t < plc x ∧ slp x t ≤ 0 ∨ plc x < t ∧ 0 < slp x t := by
  have hp := plc_is h
  rcases Int.lt_trichotomy t (plc x) with h1 | h1 | h1
  · exact .inr (.inl ⟨h1, slp_mono h ht hp.1 (by omega) hp.2.1⟩)
  · exact .inl ⟨h1, h1 ▸ hp.2.1⟩
  · refine .inr (.inr ⟨h1, ?_⟩)
    rcases hp.2.2 with h2 | h2
    · unfold inC at ht; omega
    · have hn := plc_next h (by unfold inC at ht; omega)
      rcases Int.lt_or_le 0 (slp x t) with h3 | h3
      · exact h3
      · have := slp_mono h hn ht (by omega) h3; omega

theorem rayLeast_any (x : Cr) (t : Int) (w : World) :
    Calls Try.prog 6 #[.agg #[.int .i64 x.X1, .int .i64 x.H1, .int .i64 x.V1, .int .i64 x.X2, .int .i64 x.H2, .int .i64 x.V2], .int .i64 t] w fun e w' => e = .returned (.bool true) ∧ Below w.heap.size w w' := by
  by_cases h : okC x
  · have hk := plc_in h
    have b1 := in_bd h hk
    have K4 : ∀ W, _ := fun W => checkCrossing_ok x (plc x) W h hk
    rw [(kX_zero h hk).2 rfl] at K4
    by_cases ht : inC x t
    · have b2 := in_bd h ht
      have K7 : ∀ W, _ := fun W => checkCrossing_ok x t W h ht
      have e7 : kX x t = if t = plc x then 0 else 18 := by
        by_cases e : t = plc x
        · rw [if_pos e, (kX_zero h ht).2 e]
        · rw [if_neg e]
          have : ¬ kX x t = 0 := fun e2 => e ((kX_zero h ht).1 e2)
          unfold kX at *
          split
          · rename_i c; rw [if_pos c] at this; exact absurd rfl this
          · rfl
      rw [e7] at K7
      exact rayLeast_in x t (plc x) _ _ _ _ _ _ _ _ w (ls_le h) (lsL_nn x) (lsL_le h b1.1 b1.2) (lsH_le h) (plc_is h).2.1 (lsL_le h b2.1 b2.2) (slp_side h ht)
        (Lib.hid fun W => crossing_ok x W h) (Lib.hid fun W => least_ok x W h) (Lib.hid fun W => timeAtR_ok x (plc x) W h hk) (Lib.hid K4) (Lib.hid fun W => slopeAt_ok x (plc x) W h hk)
        (Lib.hid fun W => timeAtR_ok x t W h ht) (Lib.hid K7) (Lib.hid fun W => slopeAt_ok x t W h ht)
    · have K6 : ∀ W, _ := fun W => timeAtR_err x t W (fun e => ht (pE_zero.1 e).2)
      rw [pE_in h ht] at K6
      exact rayLeast_out x t (plc x) _ _ _ _ _ w (ls_le h) (lsL_nn x) (lsL_le h b1.1 b1.2) (lsH_le h) (plc_is h).2.1
        (Lib.hid fun W => crossing_ok x W h) (Lib.hid fun W => least_ok x W h) (Lib.hid fun W => timeAtR_ok x (plc x) W h hk) (Lib.hid K4) (Lib.hid fun W => slopeAt_ok x (plc x) W h hk) (Lib.hid K6)
  · exact rayLeast_err x t w (fun e => h (cE_zero.1 e))
end Go.Proofs.Ytpphnnbijmoodaa
