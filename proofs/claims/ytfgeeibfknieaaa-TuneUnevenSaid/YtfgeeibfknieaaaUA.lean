/-
  AWAKE of chapter 6, run by the executor.
-/
import Derived.Test.YtfgeeibfknieaaaExM
import Derived.Test.YtfgeeibfknieaaaAgW
set_option maxRecDepth 1000000
set_option maxHeartbeats 0
namespace Go.Proofs.Ytfgeeibfknieaaa
open Go Go.RowKit
theorem UA.awake : Ag.CallOb Try.prog 5 #[] [] (.bool true) := fun w _ => Ex.ran_bool (by kernel_rfl) w
end Go.Proofs.Ytfgeeibfknieaaa
