/-
  AN EXECUTOR, checked once: the law's example.
-/
import Derived.Test.YtlpjnhoafaamkaaExK
import Derived.Test.YtlpjnhoafaamkaaProg
set_option linter.unusedVariables false
namespace Go.Proofs.Ytlpjnhoafaamkaa
open Go Go.RowKit
namespace Ex
theorem fol : Try.prog.follows .mixedOrders = true := by kernel_rfl
/-- the executor has run a call without arguments -/
theorem ran_bool {f : FuncId} {t : Bool} (h : (match exCall Try.prog 1000000 100 f [] .nil 0 with | some r => (match r.v with | .bool c => c == t | _ => false) | none => false) = true) (w : World) : Calls Try.prog f #[] w fun r w' => r = .returned (.bool t) ∧ Below w.heap.size w w' := by
  cases hr : exCall Try.prog 1000000 100 f [] .nil 0 with
  | none => rw [hr] at h; cases h
  | some r =>
    rw [hr] at h
    obtain ⟨v, M, n, md⟩ := r
    cases v with
    | bool c =>
      simp only [beq_iff_eq] at h
      subst h
      exact ran fol 1000000 100 (by rw [hr]; rfl) (by rw [hr]; rfl) w
    | _ => cases h
end Ex
end Go.Proofs.Ytlpjnhoafaamkaa
