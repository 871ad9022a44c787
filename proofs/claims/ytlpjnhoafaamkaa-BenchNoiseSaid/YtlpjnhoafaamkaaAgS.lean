/-
  Short words for values.
-/
import Derived.Test.YtlpjnhoafaamkaaAgW
set_option linter.unusedVariables false
set_option linter.unusedSimpArgs false
namespace Go.Proofs.Ytlpjnhoafaamkaa
open Go Go.RowKit

namespace Ag
abbrev aI (n : Int) : Option Value := some (.int .i64 n)
abbrev aN (n : Int) : Value := .int .i64 n
abbrev aU : Option Value := some undef
abbrev aT : Option Value := some (.bool true)
abbrev aF : Option Value := some (.bool false)
abbrev aP (b o : Nat) : Option Value := some (.pointer (some ⟨b, o, none⟩))
abbrev aS (b o n c : Nat) : Option Value := some (.slice (some ⟨b, o, none⟩) n c)
end Ag

end Go.Proofs.Ytlpjnhoafaamkaa
