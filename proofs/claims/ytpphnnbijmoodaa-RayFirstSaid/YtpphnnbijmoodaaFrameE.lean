/-
  ARGUMENTS OPENED: arrays of four whole numbers.
-/
import Derived.Test.YtpphnnbijmoodaaFrameD
set_option linter.unusedVariables false
set_option linter.unusedSimpArgs false
namespace Go.Proofs.Ytpphnnbijmoodaa
open Go.ChangeShapes Go.WideShapes Go.ChangeAt Go.RowKit Go.Joins Go.Deep
section
variable {H : Type} {enc : TypeId × Value → H} {w : World} {base : Nat} {spare : Nat → Bool} {held : Bool}
theorem iArr4 : IntsT H enc Try.prog w base spare held 114 := intsT_array Try.underlying114 (by kernel_rfl) iInt
theorem cArr4 : Try.prog.cellsOf 114 = 4 := by kernel_rfl
end
end Go.Proofs.Ytpphnnbijmoodaa
