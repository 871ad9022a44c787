/-
  WHAT IS FASTEST PASSES: TopSnellPasses returns true.
-/
import Derived.Test.YtegdokmgplancaaSnell
set_option linter.unusedVariables false
set_option linter.unusedSimpArgs false
namespace Go.Proofs.Ytegdokmgplancaa
open Go.RowKit

theorem snl_neg {n : Int} (h : sgn n < 0) : n < 0 := by unfold sgn at h; split at h <;> (try split at h) <;> omega
theorem snl_le {n : Int} (h : sgn n ≤ 0) : n ≤ 0 := by unfold sgn at h; split at h <;> (try split at h) <;> omega
set_option maxHeartbeats 1000000 in
theorem topSnellPasses_any (x : Cr) (w : World) :
    Calls Try.prog 18 #[.agg #[.int .i64 x.X1, .int .i64 x.H1, .int .i64 x.V1, .int .i64 x.X2, .int .i64 x.H2, .int .i64 x.V2]] w fun e w' => e = .returned (.bool true) ∧ Below w.heap.size w w' := by
  by_cases h : cE x = 0
  · have ho := cE_zero.1 h
    have H1 := Lib.hid (fun W => crossing_ok x W ho)
    obtain ⟨i1, i2, i3⟩ := plc_is ho
    have i1' := i1
    unfold inC at i1'
    obtain ⟨o1, o2, o3, o4, o5, o6⟩ := id ho
    have hp : -100000 ≤ plc x ∧ plc x ≤ 100000 := by omega
    obtain ⟨t, ht⟩ : ∃ t, (x.X2 < x.X1 ∧ t = plc x + 1) ∨ (¬ x.X2 < x.X1 ∧ t = plc x) := by
      by_cases hl : x.X2 < x.X1
      · exact ⟨_, .inl ⟨hl, rfl⟩⟩
      · exact ⟨_, .inr ⟨hl, rfl⟩⟩
    cases hi : inB (t - x.X1) (-1000) 1000
    · exact snell_out x (plc x) t w H1 hp o1 ht (.inl hi)
    by_cases h2 : 1000 < x.H1
    · exact snell_out x (plc x) t w H1 hp o1 ht (.inr (.inl ⟨hi, h2⟩))
    by_cases h3 : max x.X1 x.X2 < t
    · exact snell_out x (plc x) t w H1 hp o1 ht (.inr (.inr ⟨hi, h2, h3⟩))
    have hs : slpC x t ≤ 0 := by
      rcases ht with ⟨hl, rfl⟩ | ⟨hl, rfl⟩
      · have i4 : 0 < slp x (plc x + 1) := by
          rcases i3 with i3 | i3
          · omega
          · exact i3
        unfold slp at i4
        rw [if_pos hl] at i4
        have := snl_neg (n := slpC x (plc x + 1)) (by omega)
        omega
      · unfold slp at i2
        rw [if_neg hl] at i2
        exact snl_le i2
    have hb := snell_math ho hs
    have hi2 := inB_iff.1 hi
    have hA : okA (t - x.X1) x.H1 x.V1 x.V2 := ⟨⟨by omega, by omega⟩, by omega, by omega⟩
    have K4 : ∀ W, _ := fun W => passes_ok (t - x.X1) x.H1 x.V1 x.V2 W hA
    rw [decide_eq_true hb] at K4
    exact snell_in x (plc x) t (sqN (t - x.X1) x.H1 x.V1 x.V2) (sqD (t - x.X1) x.H1 x.V1 x.V2) (sqE (t - x.X1) x.H1 x.V1 x.V2) w H1 hp o1 ht hi h2 h3 (Lib.hid K4)
      (Lib.hid (fun W => behindSq_ok (t - x.X1) x.H1 x.V1 x.V2 W hA hb)) (snell_sq hA hb)
  · exact snell_err x w h
end Go.Proofs.Ytegdokmgplancaa
