/-
  ANGLES: RayAngles returns true.
-/
import Derived.Test.YtegdokmgplancaaRayAngles
set_option linter.unusedVariables false
set_option linter.unusedSimpArgs false
namespace Go.Proofs.Ytegdokmgplancaa
open Go.RowKit

theorem dE_or (a b : Int) : dE a b = 0 ∨ dE a b = 2 := by
  unfold dE
  cases h : (inB a (-1000) 1000 && inB b 1 1000)
  · right; rfl
  · left; rfl
theorem speed_bad {v : Int} (h : ¬ (500 ≤ v ∧ v ≤ 10000)) : unl (inB v 500 10000) 2 = 2 := by
  have : inB v 500 10000 = false := by
    cases c : inB v 500 10000
    · rfl
    · exact absurd (inB_iff.1 c) h
  rw [this]; rfl
theorem speed_good {v : Int} (h : 500 ≤ v ∧ v ≤ 10000) : unl (inB v 500 10000) 2 = 0 := by rw [inB_iff.2 h]; rfl
theorem aE_of {a b f s : Int} (h : dE a b = 2 ∨ unl (inB f 500 10000) 2 = 2 ∨ unl (inB f 500 10000) 2 = 0 ∧ unl (inB s 500 10000) 2 = 2) : aE a b f s = 2 := by
  unfold aE
  rcases dE_or a b with d | d
  · rcases h with h | h | ⟨h, k⟩
    · omega
    · rw [d, h]; rfl
    · rw [d, h, k]; rfl
  · rw [d]; rfl
set_option maxHeartbeats 1000000 in
theorem rayAngles_bad (a b f s : Int) (w : World) (q : qE f s = 2) (h : unl (inB f 500 10000) 2 = 2 ∨ unl (inB f 500 10000) 2 = 0 ∧ unl (inB s 500 10000) 2 = 2) :
    Calls Try.prog 14 #[.agg #[.int .i64 a, .int .i64 b], .int .i64 f, .int .i64 s] w fun e w' => e = .returned (.bool true) ∧ Below w.heap.size w w' := by
  have ha : aE a b f s = 2 := aE_of (.inr h)
  have K1 : ∀ W, _ := fun W => critical_err f s W (by omega)
  rw [q] at K1
  have K2 : ∀ W, _ := fun W => passes_err a b f s W (by omega)
  have K3 : ∀ W, _ := fun W => behindSq_err a b f s W (by omega)
  rw [ha] at K2 K3
  have KD : ∀ W, _ := fun W => refDirection_any a b W
  have L1 : ∀ W, _ := fun W => refSpeed_any f W
  have L2 : ∀ W, _ := fun W => refSpeed_any s W
  rcases h with h | ⟨h, k⟩
  · rw [h] at L1
    rcases dE_or a b with d | d
    · rw [d] at KD
      exact rayAngles_a a b f s w (Lib.hid K1) (Lib.hid K2) (Lib.hid K3) (Lib.hid L1) (Lib.hid KD)
    · rw [d] at KD
      exact rayAngles_b a b f s w (Lib.hid K1) (Lib.hid K2) (Lib.hid K3) (Lib.hid L1) (Lib.hid KD)
  · rw [h] at L1
    rw [k] at L2
    rcases dE_or a b with d | d
    · rw [d] at KD
      exact rayAngles_c a b f s w (Lib.hid K1) (Lib.hid K2) (Lib.hid K3) (Lib.hid L1) (Lib.hid L2) (Lib.hid KD)
    · rw [d] at KD
      exact rayAngles_d a b f s w (Lib.hid K1) (Lib.hid K2) (Lib.hid K3) (Lib.hid L1) (Lib.hid L2) (Lib.hid KD)
set_option maxHeartbeats 1000000 in
theorem rayAngles_good (a b f s cn cd q : Int) (w : World) (hf : 500 ≤ f ∧ f ≤ 10000) (hs : 500 ≤ s ∧ s ≤ 10000)
    (K1 : ∀ W, Calls Try.prog 64 #[.int .i64 f, .int .i64 s] W fun e w' => e = .returned (.tuple #[.agg #[.int .i64 cn, .int .i64 cd], .int .i64 q]) ∧ Below W.heap.size W w')
    (R1 : ∀ W, Calls Try.prog 67 #[.int .i64 f, .int .i64 s] W fun e w' => e = .returned (.tuple #[.agg #[.int .i64 cn, .int .i64 cd], .int .i64 q]) ∧ Below W.heap.size W w') :
    Calls Try.prog 14 #[.agg #[.int .i64 a, .int .i64 b], .int .i64 f, .int .i64 s] w fun e w' => e = .returned (.bool true) ∧ Below w.heap.size w w' := by
  have KD : ∀ W, _ := fun W => refDirection_any a b W
  have L1 : ∀ W, _ := fun W => refSpeed_any f W
  have L2 : ∀ W, _ := fun W => refSpeed_any s W
  rw [speed_good hf] at L1
  rw [speed_good hs] at L2
  rcases dE_or a b with d | d
  · rw [d] at KD
    have ho : okA a b f s := by
      apply aE_zero.1
      unfold aE
      rw [d, speed_good hf, speed_good hs]; rfl
    have K2 : ∀ W, _ := fun W => passes_ok a b f s W ho
    have R2 : ∀ W, _ := fun W => refPasses_any a b f s W ho
    by_cases hp : bN a s ≤ bD a b f
    · exact rayAngles_f a b f s cn cd q _ _ _ _ w (Lib.hid K1) (Lib.hid K2) (Lib.hid (fun W => behindSq_ok a b f s W ho hp)) (Lib.hid L1) (Lib.hid L2) (Lib.hid R1) (Lib.hid (fun W => refBehind_ok a b f s W ho hp)) (Lib.hid R2) (Lib.hid KD)
    · exact rayAngles_f a b f s cn cd q _ _ _ _ w (Lib.hid K1) (Lib.hid K2) (Lib.hid (fun W => behindSq_none a b f s W ho hp)) (Lib.hid L1) (Lib.hid L2) (Lib.hid R1) (Lib.hid (fun W => refBehind_none a b f s W ho hp)) (Lib.hid R2) (Lib.hid KD)
  · rw [d] at KD
    have ha : aE a b f s = 2 := aE_of (.inl d)
    have K2 : ∀ W, _ := fun W => passes_err a b f s W (by omega)
    have K3 : ∀ W, _ := fun W => behindSq_err a b f s W (by omega)
    rw [ha] at K2 K3
    exact rayAngles_e a b f s cn cd q 0 0 0 false w (Lib.hid K1) (Lib.hid K2) (Lib.hid K3) (Lib.hid L1) (Lib.hid L2) (Lib.hid R1) (Lib.hid KD)
theorem rayAngles_any (a b f s : Int) (w : World) :
    Calls Try.prog 14 #[.agg #[.int .i64 a, .int .i64 b], .int .i64 f, .int .i64 s] w fun e w' => e = .returned (.bool true) ∧ Below w.heap.size w w' := by
  by_cases hf : 500 ≤ f ∧ f ≤ 10000
  · by_cases hs : 500 ≤ s ∧ s ≤ 10000
    · by_cases hq : f < s
      · exact rayAngles_good a b f s _ _ _ w hf hs (fun W => critical_ok f s W (qE_zero.2 ⟨hf, hs, hq⟩)) (fun W => refCritical_ok f s W hq hf hs)
      · have q12 : qE f s = 12 := by unfold qE; rw [speed_good hf, speed_good hs, decide_eq_false hq]; rfl
        have K1 : ∀ W, _ := fun W => critical_err f s W (by omega)
        rw [q12] at K1
        exact rayAngles_good a b f s _ _ _ w hf hs K1 (fun W => refCritical_none f s W hq)
    · exact rayAngles_bad a b f s w (by unfold qE; rw [speed_good hf, speed_bad hs]; rfl) (.inr ⟨speed_good hf, speed_bad hs⟩)
  · exact rayAngles_bad a b f s w (by unfold qE; rw [speed_bad hf]; rfl) (.inl (speed_bad hf))
end Go.Proofs.Ytegdokmgplancaa
