/-
  TraceAnalytics: the ways put together.
-/
import Derived.Test.YthgnemkfaiejbaaTraceAna
import Derived.Test.YthgnemkfaiejbaaTraceAnaE
set_option linter.unusedVariables false
set_option linter.unusedSimpArgs false
namespace Go.Proofs.Ythgnemkfaiejbaa
open Go.RowKit

theorem traceAnalytics_any (w : World) (v0 : Value) (x : Nat → Int) (n : Nat) (hr0 : Hid (IRow w v0 x n)) :
    Calls Try.prog 11 #[v0] w fun e w' => e = .returned (.bool true) ∧ Below w.heap.size w w' := by
  by_cases hn : n ≤ 64
  · by_cases cx : tE (mkT x n) 64 = 0
    · exact traceAna_ok v0 x n w hr0 hn (Lib.hid (tE_zero cx))
    · exact traceAna_err v0 x n (tE (mkT x n) 64) w hr0 hn (by simpa using cx) (Lib.hid fun W => analytic_err _ W (mkT_24 x n) cx) (Lib.hid fun W => envelope_err _ W (mkT_24 x n) cx) (Lib.hid fun W => checkTraceR_any _ W (mkT_24 x n))
  · exact traceAna_out v0 x n w hr0 hn
end Go.Proofs.Ythgnemkfaiejbaa
