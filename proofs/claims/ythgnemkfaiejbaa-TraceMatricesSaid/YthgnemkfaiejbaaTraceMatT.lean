/-
  TraceMatrices: the ways put together.
-/
import Derived.Test.YthgnemkfaiejbaaTraceMat
set_option linter.unusedVariables false
set_option linter.unusedSimpArgs false
namespace Go.Proofs.Ythgnemkfaiejbaa
open Go.RowKit

theorem traceMatrices_any (w : World) (E : Int) (vS vR : Value) (M : Int) (s : Nat → Int × Int) (n : Nat) (r : Nat → Nat) (m : Nat) (hS : Hid (PRow w vS s n)) (hR : Hid (FRow w vR r m)) (a b : Int) :
    Calls Try.prog 4 #[.agg #[.int .i64 E, vS, vR, .int .i64 M], .agg #[.int .i64 a, .int .i64 b]] w fun e w' => e = .returned (.bool true) ∧ Below w.heap.size w w' := by
  by_cases h : n ≤ 40 ∧ m ≤ 200
  · by_cases ho : oE E (mU E M s n r m) (mN E M) = 0
    · by_cases hp : pE a b E = 0
      · exact traceMat_ok E M a b vS vR s n r m w hS hR h ho hp
      · exact traceMat_err E M a b vS vR s n r m w hS hR h 0 (pE a b E) hp ho ⟨fun _ => rfl, fun h => absurd rfl h⟩ (by unfold tpE frst frst; rw [ho]; simp only [frst, if_true]; by_cases c : pE a b E = 0 <;> simp [c])
    · exact traceMat_err E M a b vS vR s n r m w hS hR h _ _ ho rfl ⟨fun h => absurd h ho, fun _ => rfl⟩ (by unfold tpE frst; rw [if_neg ho])
  · exact traceMat_out E M a b vS vR s n r m w hS hR h
end Go.Proofs.Ythgnemkfaiejbaa
