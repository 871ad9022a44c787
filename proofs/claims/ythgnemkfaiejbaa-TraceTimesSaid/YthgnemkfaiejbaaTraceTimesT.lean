/-
  TraceTimes: the contracts put together.
-/
import Derived.Test.YthgnemkfaiejbaaTraceTimes
import Derived.Test.YthgnemkfaiejbaaTGateR
set_option linter.unusedVariables false
set_option linter.unusedSimpArgs false
namespace Go.Proofs.Ythgnemkfaiejbaa
open Go.RowKit

theorem frst_of_ne {a : Int} {l : List Int} (h : a ≠ 0) : frst (a :: l) = a := by unfold frst; rw [if_neg h]
theorem frst_of_eq {a : Int} {l : List Int} (h : a = 0) : frst (a :: l) = frst l := by rw [frst, if_pos h]
theorem smE_two {f s : Int} (h : smE f s ≠ 0) : smE f s = 2 := by
  unfold smE at *
  generalize inB f 0 1000000000000 = a at *
  generalize inB s 1 100000000 = b at *
  cases a <;> cases b <;> simp_all [frst, unl]
def gAll (f s lo hi : Int) : Int × Int × Int :=
  if ¬ (inB lo (-1000000000000) 1000000000000 = true ∧ inB hi (-1000000000000) 1000000000000 = true) then (0, 0, 2)
  else if hi < lo then (0, 0, 9)
  else if max 0 (cdiv (lo - f) s) ≤ min 60 ((hi - f) / s) then (max 0 (cdiv (lo - f) s), min 60 ((hi - f) / s), 0) else (0, 0, 12)
theorem gateOfR_all (f s lo hi : Int) (w : World) (hs : smE f s = 0) : Calls Try.prog 80 #[.agg #[.int .i64 f, .int .i64 s], .agg #[.int .i64 lo, .int .i64 hi]] w fun e w' => e = .returned (.tuple #[.agg #[.int .i64 (gAll f s lo hi).1, .int .i64 (gAll f s lo hi).2.1], .int .i64 (gAll f s lo hi).2.2]) ∧ Below w.heap.size w w' := by
  unfold gAll
  by_cases h1 : inB lo (-1000000000000) 1000000000000 = true ∧ inB hi (-1000000000000) 1000000000000 = true
  · rw [if_neg (by simpa using h1)]
    by_cases h2 : hi < lo
    · rw [if_pos h2]
      exact gateOfR_order f s lo hi w h1 h2
    · rw [if_neg h2]
      have := gateOfR_ok f s lo hi w hs h1 (by omega)
      by_cases h3 : max 0 (cdiv (lo - f) s) ≤ min 60 ((hi - f) / s)
      · rw [if_pos h3] at this ⊢; exact this
      · rw [if_neg h3] at this ⊢; exact this
  · rw [if_pos h1]
    exact gateOfR_range f s lo hi w h1
theorem gateOf_all (f s lo hi : Int) (w : World) (hs : smE f s = 0) : Calls Try.prog 74 #[.agg #[.int .i64 f, .int .i64 s], .agg #[.int .i64 lo, .int .i64 hi]] w fun e w' => e = .returned (.tuple #[.agg #[.int .i64 (gAll f s lo hi).1, .int .i64 (gAll f s lo hi).2.1], .int .i64 (gAll f s lo hi).2.2]) ∧ Below w.heap.size w w' := by
  have e0 : goE f s lo hi = frst [unl (inB lo (-1000000000000) 1000000000000) 2, unl (inB hi (-1000000000000) 1000000000000) 2, unl (decide (lo ≤ hi)) 9] := by unfold goE; rw [frst_of_eq hs]
  unfold gAll
  by_cases h1 : inB lo (-1000000000000) 1000000000000 = true ∧ inB hi (-1000000000000) 1000000000000 = true
  · rw [if_neg (by simpa using h1)]
    rw [h1.1, h1.2] at e0
    by_cases h2 : hi < lo
    · rw [if_pos h2]
      rw [decide_eq_false (show ¬ lo ≤ hi by omega)] at e0
      have e1 : goE f s lo hi = 9 := e0
      have := gateOf_err f s lo hi w (by rw [e1]; decide)
      rw [e1] at this
      exact this
    · rw [if_neg h2]
      rw [decide_eq_true (show lo ≤ hi by omega)] at e0
      have e1 : goE f s lo hi = 0 := e0
      have := gateOf_ok f s lo hi w e1
      by_cases h3 : max 0 (cdiv (lo - f) s) ≤ min 60 ((hi - f) / s)
      · rw [if_pos h3] at this ⊢; exact this
      · rw [if_neg h3] at this ⊢; exact this
  · rw [if_pos h1]
    have e1 : goE f s lo hi = 2 := by
      rw [e0]
      cases c1 : inB lo (-1000000000000) 1000000000000 <;> cases c2 : inB hi (-1000000000000) 1000000000000
      case true.true => exact absurd ⟨c1, c2⟩ h1
      all_goals simp [frst, unl]
    have := gateOf_err f s lo hi w (by rw [e1]; decide)
    rw [e1] at this
    exact this
theorem timeOf_all (f s n : Int) (w : World) (hs : smE f s = 0) : Calls Try.prog 72 #[.agg #[.int .i64 f, .int .i64 s], .int .i64 n] w fun e w' => e = .returned (.tuple #[.int .i64 (if inB n 0 63 = true then f + n * s else 0), .int .i64 (unl (inB n 0 63) 2)]) ∧ Below w.heap.size w w' := by
  have e0 : toE f s n = unl (inB n 0 63) 2 := by
    unfold toE; rw [frst_of_eq hs]
    cases inB n 0 63 <;> rfl
  cases h : inB n 0 63
  · rw [h] at e0
    have := timeOf_err f s n w (by rw [e0]; decide)
    rw [e0] at this
    exact this
  · rw [h] at e0
    have := timeOf_ok f s n w e0
    exact this
theorem nearest_all (f s t : Int) (w : World) (hs : smE f s = 0) : Calls Try.prog 73 #[.agg #[.int .i64 f, .int .i64 s], .int .i64 t] w fun e w' => e = .returned (.tuple #[.int .i64 (if inB t (-1000000000000) 1000000000000 = true then nV f s t else 0), .int .i64 (if inB t (-1000000000000) 1000000000000 = true then nE f s t else 2)]) ∧ Below w.heap.size w w' := by
  have e0 : neE f s t = unl (inB t (-1000000000000) 1000000000000) 2 := by
    unfold neE; rw [frst_of_eq hs]
    cases inB t (-1000000000000) 1000000000000 <;> rfl
  cases h : inB t (-1000000000000) 1000000000000
  · rw [h] at e0
    have := nearest_err f s t w (by rw [e0]; decide)
    rw [e0] at this
    exact this
  · rw [h] at e0
    have := nearest_ok f s t w e0
    rw [if_pos rfl, if_pos rfl]
    unfold nV nE
    cases hb : inB (neN f s t) 0 63
    · rw [hb] at this; exact this
    · rw [hb] at this; exact this
theorem same_bel {fn : FuncId} {args : Array Value} {w : World} {v : Value} (h : Calls Try.prog fn args w fun e w' => e = .returned v ∧ w = w') : Calls Try.prog fn args w fun e w' => e = .returned v ∧ Below w.heap.size w w' :=
  h.mono fun e w' h => ⟨h.1, h.2 ▸ Below.refl _ _⟩
theorem traceTimes_any (f s lo hi n : Int) (w : World) : Calls Try.prog 16 #[.agg #[.int .i64 f, .int .i64 s], .agg #[.int .i64 lo, .int .i64 hi], .int .i64 n] w fun e w' => e = .returned (.bool true) ∧ Below w.heap.size w w' := by
  by_cases hs : smE f s = 0
  · have s0 := (smE_ok hs)
    refine traceTimes_good f s lo hi n (if inB n 0 63 = true then f + n * s else 0) (unl (inB n 0 63) 2) (if inB lo (-1000000000000) 1000000000000 = true then nV f s lo else 0) (if inB lo (-1000000000000) 1000000000000 = true then nE f s lo else 2) (gAll f s lo hi).1 (gAll f s lo hi).2.1 (gAll f s lo hi).2.2 (unl (inB lo (-1000000000000) 1000000000000) 2) w
      (Lib.hid fun W => timeOf_all f s n W hs) (Lib.hid fun W => nearest_all f s lo W hs) (Lib.hid fun W => gateOf_all f s lo hi W hs) (Lib.hid fun W => ?_) (Lib.hid fun W => ?_) (Lib.hid fun W => timeOfR_any f s n W hs) (Lib.hid fun W => same_bel (timeErrR_any lo W)) (Lib.hid fun h W => ?_) (Lib.hid fun h => ?_) (Lib.hid fun W => gateOfR_all f s lo hi W hs) (Lib.hid fun h h2 W => ?_)
    · have := checkSampling_any f s W
      rw [hs] at this
      exact this
    · have := checkSamplingR_any f s W
      rw [hs] at this
      exact this
    · have ht := unl_two.1 h
      rw [if_pos ht, if_pos ht]
      exact nearestR_any f s lo W hs ht
    · rw [unl_two] at h
      rw [if_neg h, if_neg h]
      refine ⟨rfl, ?_⟩
      cases hb : inB lo (-1000000000000) 1000000000000
      · rfl
      · exact absurd hb h
    · have hn := unl_two.1 h
      rw [if_pos hn] at h2 ⊢
      have n0 : 0 ≤ n ∧ n ≤ 63 := of_decide_eq_true hn
      have hp0 : 0 ≤ n * s := Int.mul_nonneg n0.1 (by omega)
      have ht : inB (f + n * s) (-1000000000000) 1000000000000 = true := by unfold inB; exact decide_eq_true (by omega)
      have := nearest_all f s (f + n * s) W hs
      rw [if_pos ht, if_pos ht] at this
      unfold nV nE at this
      rw [neN_back f s n (by omega), hn] at this
      exact this
  · have h2 := smE_two hs
    refine traceTimes_bad f s lo hi n (smE f s) 0 0 0 w (by simpa using hs) (Lib.hid fun W => ?_) (Lib.hid fun W => ?_) (Lib.hid fun W => ?_) (Lib.hid fun W => checkSampling_any f s W) (Lib.hid fun W => checkSamplingR_any f s W)
    · have e : toE f s n = smE f s := by unfold toE; rw [frst_of_ne hs]
      have := timeOf_err f s n W (by rw [e]; exact hs)
      rw [e] at this; exact this
    · have e : neE f s lo = smE f s := by unfold neE; rw [frst_of_ne hs]
      have := nearest_err f s lo W (by rw [e]; exact hs)
      rw [e] at this; exact this
    · have e : goE f s lo hi = smE f s := by unfold goE; rw [frst_of_ne hs]
      have := gateOf_err f s lo hi W (by rw [e]; exact hs)
      rw [e] at this; exact this
end Go.Proofs.Ythgnemkfaiejbaa
