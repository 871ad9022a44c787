/-
  AWAKE of chapter 4, run by the executor.
-/
import Derived.Test.YtlpjnhoafaamkaaExM
import Derived.Test.YtlpjnhoafaamkaaAgW
set_option maxRecDepth 1000000
set_option maxHeartbeats 0
namespace Go.Proofs.Ytlpjnhoafaamkaa
open Go Go.RowKit
theorem UB.awake : Ag.CallOb Try.prog 5 #[] [] (.bool true) := fun w _ => Ex.ran_bool (by kernel_rfl) w
end Go.Proofs.Ytlpjnhoafaamkaa
