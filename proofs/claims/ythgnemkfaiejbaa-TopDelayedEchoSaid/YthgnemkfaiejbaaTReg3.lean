/-
  REGIONS BY THEIR STATES: a later state, found by going there.
-/
import Derived.Test.YthgnemkfaiejbaaTReg2
set_option linter.unusedVariables false
set_option linter.unusedSimpArgs false
namespace Go.Proofs.Ythgnemkfaiejbaa
open Go.RowKit

theorem jump_intro {P : Program} {ops : Array Oper} {Q : Exit → Act → World → Prop} {md : Region.Mode} {S : World → Prop} {J : Array Bool → Act → Prop} {l l' : Array Bool} {a a' : Act} {w : World}
    (h3 : wpAnyH P md ops Q S (undone l') l' a' w → wpAnyH P md ops Q S (undone l) l a w) (h1 : undone l' < undone l) (h2 : J l' a') :
    ∃ l' a', undone l' < undone l ∧ J l' a' ∧ (wpAnyH P md ops Q S (undone l') l' a' w → wpAnyH P md ops Q S (undone l) l a w) := ⟨l', a', h1, h2, h3⟩
end Go.Proofs.Ythgnemkfaiejbaa
