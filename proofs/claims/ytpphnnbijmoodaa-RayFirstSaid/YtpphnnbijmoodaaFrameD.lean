/-
  ARGUMENTS OPENED: ways.
-/
import Derived.Test.YtpphnnbijmoodaaFrameC
set_option linter.unusedVariables false
set_option linter.unusedSimpArgs false
namespace Go.Proofs.Ytpphnnbijmoodaa
open Go.ChangeShapes Go.WideShapes Go.ChangeAt Go.RowKit Go.Joins Go.Deep
section
variable {H : Type} {enc : TypeId × Value → H} {w : World} {base : Nat} {spare : Nat → Bool} {held : Bool}
theorem iWay : IntsT H enc Try.prog w base spare held 61 := intsT_struct Try.underlying61 (by kernel_rfl) (fields_cons iMode (fields_cons iSpot (fields_cons iSpot fields_nil)))
theorem cWay : Try.prog.cellsOf 61 = 8 := by kernel_rfl
end
end Go.Proofs.Ytpphnnbijmoodaa
