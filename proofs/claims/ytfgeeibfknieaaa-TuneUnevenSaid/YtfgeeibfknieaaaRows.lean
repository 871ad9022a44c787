/-
  No cell of these rows narrows 'for every input' (looked for: loops, veiled, ifaces, maps, wideKeys, modest, calm, conditions, laid).
  DERIVED. THE GIVEN ROWS OF THIS SEAT. 2 by the template 'for every input the law returns true; each argument reads behind the call as it read before'; 0 by the template 'total and deterministic' (their statements: YtfgeeibfknieaaaTotals.lean).
  GIVEN WITH THE SEED: the statements are not yours to turn. If you find one false, say at which input.
  Laid BY PROGRAM, IN A SANDBOX (cutbox-rows.mjs): the forced cells as the released guide's own fill.sh prints them over the translation cddf1240a19c60d0… (all of the seat's roots in one cut). By AI agents, Wed Nov 11 2026. No macro, syntax, notation, axiom, sorry.
-/
import Derived.Test.YtfgeeibfknieaaaChecked
import GoSem.Claim
import GoSem.ClaimJoined
import GoSem.ClaimMapViews
import Derived.JoinedTies
import Derived.KernelRfl
namespace Go.Proofs.Ytfgeeibfknieaaa
/- THE CELL 'sum', in the pinned program and in every row, IS THE sha256 OF THE DUMP (.gsa) THAT YtfgeeibfknieaaaProg.lean LOADS. Nothing in Lean hashes anything: it is a label: what it is worth is what the hold of that sum in a sandbox is worth. -/
noncomputable def Try.pinned : Pinned := { name := "ytfgeeibfknieaaa", sum := "cddf1240a19c60d005014bd06ab0f26b9e66ea1c0795e1a1779d63644cff1045", checked := Try.checked }
namespace Rows
def none {H : Type} : Left H := { results := [], args := [] }

/-- 'couplantlaw06.TuneWears': WHATEVER THE INPUT: true; the input reads as it did. -/
def tuneWearsSpec : ChangeSpec := { name := "tuneWears", fn := fun _ => fun
  | [d1, d2, d3] => { results := [.lit (.bool true)], args := [d1, d2, d3] }
  | _ => none }
def tuneWearsRow : OpenClaim := { program := "ytfgeeibfknieaaa", sum := "cddf1240a19c60d005014bd06ab0f26b9e66ea1c0795e1a1779d63644cff1045", func := "couplant/couplantlaw06.TuneWears", spec := "tuneWears", unfollowed := true, recurses := true, apart := false }
def TuneWearsSaid : Prop := tuneWearsRow.holds Try.pinned (OpenSpec.ofChange tuneWearsSpec)

/-- ITS FALSE NEIGHBOUR: 'it returns false'. Refute it at one input. -/
def tuneWearsWrong : ChangeSpec := { name := "tuneWears", fn := fun _ => fun
  | [d1, d2, d3] => { results := [.lit (.bool false)], args := [d1, d2, d3] }
  | _ => none }
def TuneWearsWrongFalsely : Prop := tuneWearsRow.holds Try.pinned (OpenSpec.ofChange tuneWearsWrong)

/-- 'couplantlaw06.TuneUneven': WHATEVER THE INPUT: true; the input reads as it did. -/
def tuneUnevenSpec : ChangeSpec := { name := "tuneUneven", fn := fun _ => fun
  | [d1, d2, d3] => { results := [.lit (.bool true)], args := [d1, d2, d3] }
  | _ => none }
def tuneUnevenRow : OpenClaim := { program := "ytfgeeibfknieaaa", sum := "cddf1240a19c60d005014bd06ab0f26b9e66ea1c0795e1a1779d63644cff1045", func := "couplant/couplantlaw06.TuneUneven", spec := "tuneUneven", unfollowed := true, recurses := true, apart := false }
def TuneUnevenSaid : Prop := tuneUnevenRow.holds Try.pinned (OpenSpec.ofChange tuneUnevenSpec)

/-- ITS FALSE NEIGHBOUR: 'it returns false'. Refute it at one input. -/
def tuneUnevenWrong : ChangeSpec := { name := "tuneUneven", fn := fun _ => fun
  | [d1, d2, d3] => { results := [.lit (.bool false)], args := [d1, d2, d3] }
  | _ => none }
def TuneUnevenWrongFalsely : Prop := tuneUnevenRow.holds Try.pinned (OpenSpec.ofChange tuneUnevenWrong)

/- THE SECOND FORM. 'bulk': how many values and letters a reading holds, each counted each time it is reached (what is shared counts as often as it is met; a slice's spare places count too). A statement '..UptoSaid' is the law's where the arguments, and the package variables that the reading takes, are together of bulk at most 1048576: NARROWER than '..Said'. Prove '..Said' where nothing that the law and all that it calls make is longer than what came in: it says more and counts as full. Else prove '..UptoSaid'. A law counts once. -/
mutual
def uptoBulk {H : Type} : DataW H → Nat
  | .lit (.string bytes) => bytes.length + 1
  | .lit _ => 1
  | .nil => 1
  | .ptr d => uptoBulk d + 1
  | .slice elems spare => uptoBulkAll elems + uptoBulkAll spare + 1
  | .agg parts => uptoBulkAll parts + 1
  | .iface _ d => uptoBulk d + 1
  | .map entries => uptoBulkEntries entries + 1
  | .held _ => 1
def uptoBulkAll {H : Type} : List (DataW H) → Nat
  | [] => 0
  | d :: r => uptoBulk d + uptoBulkAll r
def uptoBulkEntries {H : Type} : List (Lit × DataW H) → Nat
  | [] => 0
  | x :: r => uptoBulkEntry x + uptoBulkEntries r
def uptoBulkEntry {H : Type} : Lit × DataW H → Nat
  | (.string bytes, d) => bytes.length + uptoBulk d + 1
  | (_, d) => uptoBulk d + 1
 end
def uptoSmall : (H : Type) → List (DataW H) → Bool := fun _ ds => decide (uptoBulkAll ds ≤ 1048576)
def OpenSpec.upto (s : _root_.Go.ChangeSpec) : _root_.Go.OpenSpec := { _root_.Go.OpenSpec.ofChange s with cond := some uptoSmall }

/-- 'couplantlaw06.TuneWears', WHERE WHAT IT READS IS OF BULK AT MOST 1048576: true; the input reads as it did. -/
def tuneWearsUptoRow : OpenClaim := { program := "ytfgeeibfknieaaa", sum := "cddf1240a19c60d005014bd06ab0f26b9e66ea1c0795e1a1779d63644cff1045", func := "couplant/couplantlaw06.TuneWears", spec := "tuneWears", unfollowed := true, recurses := true, apart := false, narrowed := true }
def TuneWearsUptoSaid : Prop := tuneWearsUptoRow.holds Try.pinned (OpenSpec.upto tuneWearsSpec)

/-- 'couplantlaw06.TuneUneven', WHERE WHAT IT READS IS OF BULK AT MOST 1048576: true; the input reads as it did. -/
def tuneUnevenUptoRow : OpenClaim := { program := "ytfgeeibfknieaaa", sum := "cddf1240a19c60d005014bd06ab0f26b9e66ea1c0795e1a1779d63644cff1045", func := "couplant/couplantlaw06.TuneUneven", spec := "tuneUneven", unfollowed := true, recurses := true, apart := false, narrowed := true }
def TuneUnevenUptoSaid : Prop := tuneUnevenUptoRow.holds Try.pinned (OpenSpec.upto tuneUnevenSpec)

end Rows
end Go.Proofs.Ytfgeeibfknieaaa
