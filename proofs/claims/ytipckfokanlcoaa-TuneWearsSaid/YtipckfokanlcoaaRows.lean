/-
  No cell of these rows narrows 'for every input' (looked for: loops, veiled, ifaces, maps, wideKeys, modest, calm, conditions, laid).
  DERIVED. THE GIVEN ROWS OF THIS SEAT. 14 by the template 'for every input the law returns true; each argument reads behind the call as it read before'; 0 by the template 'total and deterministic' (their statements: YtipckfokanlcoaaTotals.lean).
  GIVEN WITH THE SEED: the statements are not yours to turn. If you find one false, say at which input.
  Laid BY PROGRAM, IN A SANDBOX (cutbox-rows.mjs): the forced cells as the released guide's own fill.sh prints them over the translation b0b23d96e90eae02… (all of the seat's roots in one cut). By AI agents, Wed Nov 11 2026. No macro, syntax, notation, axiom, sorry.
-/
import Derived.Test.YtipckfokanlcoaaChecked
import GoSem.Claim
import GoSem.ClaimJoined
import GoSem.ClaimMapViews
import Derived.JoinedTies
import Derived.KernelRfl
namespace Go.Proofs.Ytipckfokanlcoaa
/- THE CELL 'sum', in the pinned program and in every row, IS THE sha256 OF THE DUMP (.gsa) THAT YtipckfokanlcoaaProg.lean LOADS. Nothing in Lean hashes anything: it is a label: what it is worth is what the hold of that sum in a sandbox is worth. -/
noncomputable def Try.pinned : Pinned := { name := "ytipckfokanlcoaa", sum := "b0b23d96e90eae02052eab5af6ac1bd48e170f103c71655e21936134c904c42a", checked := Try.checked }
namespace Rows
def none {H : Type} : Left H := { results := [], args := [] }

/-- 'couplantlaw06.TuneTables': WHATEVER THE INPUT: true; the input reads as it did. -/
def tuneTablesSpec : ChangeSpec := { name := "tuneTables", fn := fun _ => fun
  | [d1, d2, d3] => { results := [.lit (.bool true)], args := [d1, d2, d3] }
  | _ => none }
def tuneTablesRow : OpenClaim := { program := "ytipckfokanlcoaa", sum := "b0b23d96e90eae02052eab5af6ac1bd48e170f103c71655e21936134c904c42a", func := "couplant/couplantlaw06.TuneTables", spec := "tuneTables", unfollowed := true, recurses := true, apart := false }
def TuneTablesSaid : Prop := tuneTablesRow.holds Try.pinned (OpenSpec.ofChange tuneTablesSpec)

/-- ITS FALSE NEIGHBOUR: 'it returns false'. Refute it at one input. -/
def tuneTablesWrong : ChangeSpec := { name := "tuneTables", fn := fun _ => fun
  | [d1, d2, d3] => { results := [.lit (.bool false)], args := [d1, d2, d3] }
  | _ => none }
def TuneTablesWrongFalsely : Prop := tuneTablesRow.holds Try.pinned (OpenSpec.ofChange tuneTablesWrong)

/-- 'couplantlaw06.TuneEqualises': WHATEVER THE INPUT: true; the input reads as it did. -/
def tuneEqualisesSpec : ChangeSpec := { name := "tuneEqualises", fn := fun _ => fun
  | [d1, d2, d3] => { results := [.lit (.bool true)], args := [d1, d2, d3] }
  | _ => none }
def tuneEqualisesRow : OpenClaim := { program := "ytipckfokanlcoaa", sum := "b0b23d96e90eae02052eab5af6ac1bd48e170f103c71655e21936134c904c42a", func := "couplant/couplantlaw06.TuneEqualises", spec := "tuneEqualises", unfollowed := true, recurses := true, apart := false }
def TuneEqualisesSaid : Prop := tuneEqualisesRow.holds Try.pinned (OpenSpec.ofChange tuneEqualisesSpec)

/-- ITS FALSE NEIGHBOUR: 'it returns false'. Refute it at one input. -/
def tuneEqualisesWrong : ChangeSpec := { name := "tuneEqualises", fn := fun _ => fun
  | [d1, d2, d3] => { results := [.lit (.bool false)], args := [d1, d2, d3] }
  | _ => none }
def TuneEqualisesWrongFalsely : Prop := tuneEqualisesRow.holds Try.pinned (OpenSpec.ofChange tuneEqualisesWrong)

/-- 'couplantlaw06.TuneThins': WHATEVER THE INPUT: true; the input reads as it did. -/
def tuneThinsSpec : ChangeSpec := { name := "tuneThins", fn := fun _ => fun
  | [d1, d2] => { results := [.lit (.bool true)], args := [d1, d2] }
  | _ => none }
def tuneThinsRow : OpenClaim := { program := "ytipckfokanlcoaa", sum := "b0b23d96e90eae02052eab5af6ac1bd48e170f103c71655e21936134c904c42a", func := "couplant/couplantlaw06.TuneThins", spec := "tuneThins", unfollowed := true, recurses := true, apart := false }
def TuneThinsSaid : Prop := tuneThinsRow.holds Try.pinned (OpenSpec.ofChange tuneThinsSpec)

/-- ITS FALSE NEIGHBOUR: 'it returns false'. Refute it at one input. -/
def tuneThinsWrong : ChangeSpec := { name := "tuneThins", fn := fun _ => fun
  | [d1, d2] => { results := [.lit (.bool false)], args := [d1, d2] }
  | _ => none }
def TuneThinsWrongFalsely : Prop := tuneThinsRow.holds Try.pinned (OpenSpec.ofChange tuneThinsWrong)

/-- 'couplantlaw06.TuneThinnest': WHATEVER THE INPUT: true; the input reads as it did. -/
def tuneThinnestSpec : ChangeSpec := { name := "tuneThinnest", fn := fun _ => fun
  | [d1, d2, d3] => { results := [.lit (.bool true)], args := [d1, d2, d3] }
  | _ => none }
def tuneThinnestRow : OpenClaim := { program := "ytipckfokanlcoaa", sum := "b0b23d96e90eae02052eab5af6ac1bd48e170f103c71655e21936134c904c42a", func := "couplant/couplantlaw06.TuneThinnest", spec := "tuneThinnest", unfollowed := true, recurses := true, apart := false }
def TuneThinnestSaid : Prop := tuneThinnestRow.holds Try.pinned (OpenSpec.ofChange tuneThinnestSpec)

/-- ITS FALSE NEIGHBOUR: 'it returns false'. Refute it at one input. -/
def tuneThinnestWrong : ChangeSpec := { name := "tuneThinnest", fn := fun _ => fun
  | [d1, d2, d3] => { results := [.lit (.bool false)], args := [d1, d2, d3] }
  | _ => none }
def TuneThinnestWrongFalsely : Prop := tuneThinnestRow.holds Try.pinned (OpenSpec.ofChange tuneThinnestWrong)

/-- 'couplantlaw06.TuneArcs': WHATEVER THE INPUT: true; the input reads as it did. -/
def tuneArcsSpec : ChangeSpec := { name := "tuneArcs", fn := fun _ => fun
  | [d1, d2, d3] => { results := [.lit (.bool true)], args := [d1, d2, d3] }
  | _ => none }
def tuneArcsRow : OpenClaim := { program := "ytipckfokanlcoaa", sum := "b0b23d96e90eae02052eab5af6ac1bd48e170f103c71655e21936134c904c42a", func := "couplant/couplantlaw06.TuneArcs", spec := "tuneArcs", unfollowed := true, recurses := true, apart := false }
def TuneArcsSaid : Prop := tuneArcsRow.holds Try.pinned (OpenSpec.ofChange tuneArcsSpec)

/-- ITS FALSE NEIGHBOUR: 'it returns false'. Refute it at one input. -/
def tuneArcsWrong : ChangeSpec := { name := "tuneArcs", fn := fun _ => fun
  | [d1, d2, d3] => { results := [.lit (.bool false)], args := [d1, d2, d3] }
  | _ => none }
def TuneArcsWrongFalsely : Prop := tuneArcsRow.holds Try.pinned (OpenSpec.ofChange tuneArcsWrong)

/-- 'couplantlaw06.TuneContradicts': WHATEVER THE INPUT: true; the input reads as it did. -/
def tuneContradictsSpec : ChangeSpec := { name := "tuneContradicts", fn := fun _ => fun
  | [d] => { results := [.lit (.bool true)], args := [d] }
  | _ => none }
def tuneContradictsRow : OpenClaim := { program := "ytipckfokanlcoaa", sum := "b0b23d96e90eae02052eab5af6ac1bd48e170f103c71655e21936134c904c42a", func := "couplant/couplantlaw06.TuneContradicts", spec := "tuneContradicts", unfollowed := true, recurses := true, apart := false }
def TuneContradictsSaid : Prop := tuneContradictsRow.holds Try.pinned (OpenSpec.ofChange tuneContradictsSpec)

/-- ITS FALSE NEIGHBOUR: 'it returns false'. Refute it at one input. -/
def tuneContradictsWrong : ChangeSpec := { name := "tuneContradicts", fn := fun _ => fun
  | [d] => { results := [.lit (.bool false)], args := [d] }
  | _ => none }
def TuneContradictsWrongFalsely : Prop := tuneContradictsRow.holds Try.pinned (OpenSpec.ofChange tuneContradictsWrong)

/-- 'couplantlaw06.TuneExplained': WHATEVER THE INPUT: true; the input reads as it did. -/
def tuneExplainedSpec : ChangeSpec := { name := "tuneExplained", fn := fun _ => fun
  | [d1, d2, d3] => { results := [.lit (.bool true)], args := [d1, d2, d3] }
  | _ => none }
def tuneExplainedRow : OpenClaim := { program := "ytipckfokanlcoaa", sum := "b0b23d96e90eae02052eab5af6ac1bd48e170f103c71655e21936134c904c42a", func := "couplant/couplantlaw06.TuneExplained", spec := "tuneExplained", unfollowed := true, recurses := true, apart := false }
def TuneExplainedSaid : Prop := tuneExplainedRow.holds Try.pinned (OpenSpec.ofChange tuneExplainedSpec)

/-- ITS FALSE NEIGHBOUR: 'it returns false'. Refute it at one input. -/
def tuneExplainedWrong : ChangeSpec := { name := "tuneExplained", fn := fun _ => fun
  | [d1, d2, d3] => { results := [.lit (.bool false)], args := [d1, d2, d3] }
  | _ => none }
def TuneExplainedWrongFalsely : Prop := tuneExplainedRow.holds Try.pinned (OpenSpec.ofChange tuneExplainedWrong)

/-- 'couplantlaw06.TuneWears': WHATEVER THE INPUT: true; the input reads as it did. -/
def tuneWearsSpec : ChangeSpec := { name := "tuneWears", fn := fun _ => fun
  | [d1, d2, d3] => { results := [.lit (.bool true)], args := [d1, d2, d3] }
  | _ => none }
def tuneWearsRow : OpenClaim := { program := "ytipckfokanlcoaa", sum := "b0b23d96e90eae02052eab5af6ac1bd48e170f103c71655e21936134c904c42a", func := "couplant/couplantlaw06.TuneWears", spec := "tuneWears", unfollowed := true, recurses := true, apart := false }
def TuneWearsSaid : Prop := tuneWearsRow.holds Try.pinned (OpenSpec.ofChange tuneWearsSpec)

/-- ITS FALSE NEIGHBOUR: 'it returns false'. Refute it at one input. -/
def tuneWearsWrong : ChangeSpec := { name := "tuneWears", fn := fun _ => fun
  | [d1, d2, d3] => { results := [.lit (.bool false)], args := [d1, d2, d3] }
  | _ => none }
def TuneWearsWrongFalsely : Prop := tuneWearsRow.holds Try.pinned (OpenSpec.ofChange tuneWearsWrong)

/-- 'couplantlaw06.TuneUneven': WHATEVER THE INPUT: true; the input reads as it did. -/
def tuneUnevenSpec : ChangeSpec := { name := "tuneUneven", fn := fun _ => fun
  | [d1, d2, d3] => { results := [.lit (.bool true)], args := [d1, d2, d3] }
  | _ => none }
def tuneUnevenRow : OpenClaim := { program := "ytipckfokanlcoaa", sum := "b0b23d96e90eae02052eab5af6ac1bd48e170f103c71655e21936134c904c42a", func := "couplant/couplantlaw06.TuneUneven", spec := "tuneUneven", unfollowed := true, recurses := true, apart := false }
def TuneUnevenSaid : Prop := tuneUnevenRow.holds Try.pinned (OpenSpec.ofChange tuneUnevenSpec)

/-- ITS FALSE NEIGHBOUR: 'it returns false'. Refute it at one input. -/
def tuneUnevenWrong : ChangeSpec := { name := "tuneUneven", fn := fun _ => fun
  | [d1, d2, d3] => { results := [.lit (.bool false)], args := [d1, d2, d3] }
  | _ => none }
def TuneUnevenWrongFalsely : Prop := tuneUnevenRow.holds Try.pinned (OpenSpec.ofChange tuneUnevenWrong)

/-- 'couplantlaw06.TuneSteps': WHATEVER THE INPUT: true; the input reads as it did. -/
def tuneStepsSpec : ChangeSpec := { name := "tuneSteps", fn := fun _ => fun
  | [d1, d2] => { results := [.lit (.bool true)], args := [d1, d2] }
  | _ => none }
def tuneStepsRow : OpenClaim := { program := "ytipckfokanlcoaa", sum := "b0b23d96e90eae02052eab5af6ac1bd48e170f103c71655e21936134c904c42a", func := "couplant/couplantlaw06.TuneSteps", spec := "tuneSteps", unfollowed := true, recurses := true, apart := false }
def TuneStepsSaid : Prop := tuneStepsRow.holds Try.pinned (OpenSpec.ofChange tuneStepsSpec)

/-- ITS FALSE NEIGHBOUR: 'it returns false'. Refute it at one input. -/
def tuneStepsWrong : ChangeSpec := { name := "tuneSteps", fn := fun _ => fun
  | [d1, d2] => { results := [.lit (.bool false)], args := [d1, d2] }
  | _ => none }
def TuneStepsWrongFalsely : Prop := tuneStepsRow.holds Try.pinned (OpenSpec.ofChange tuneStepsWrong)

/-- 'couplantlaw06.TuneValid': WHATEVER THE INPUT: true; the input reads as it did. -/
def tuneValidSpec : ChangeSpec := { name := "tuneValid", fn := fun _ => fun
  | [d1, d2, d3] => { results := [.lit (.bool true)], args := [d1, d2, d3] }
  | _ => none }
def tuneValidRow : OpenClaim := { program := "ytipckfokanlcoaa", sum := "b0b23d96e90eae02052eab5af6ac1bd48e170f103c71655e21936134c904c42a", func := "couplant/couplantlaw06.TuneValid", spec := "tuneValid", unfollowed := true, recurses := true, apart := false }
def TuneValidSaid : Prop := tuneValidRow.holds Try.pinned (OpenSpec.ofChange tuneValidSpec)

/-- ITS FALSE NEIGHBOUR: 'it returns false'. Refute it at one input. -/
def tuneValidWrong : ChangeSpec := { name := "tuneValid", fn := fun _ => fun
  | [d1, d2, d3] => { results := [.lit (.bool false)], args := [d1, d2, d3] }
  | _ => none }
def TuneValidWrongFalsely : Prop := tuneValidRow.holds Try.pinned (OpenSpec.ofChange tuneValidWrong)

/-- 'couplantlaw06.TuneUntil': WHATEVER THE INPUT: true; the input reads as it did. -/
def tuneUntilSpec : ChangeSpec := { name := "tuneUntil", fn := fun _ => fun
  | [d1, d2, d3] => { results := [.lit (.bool true)], args := [d1, d2, d3] }
  | _ => none }
def tuneUntilRow : OpenClaim := { program := "ytipckfokanlcoaa", sum := "b0b23d96e90eae02052eab5af6ac1bd48e170f103c71655e21936134c904c42a", func := "couplant/couplantlaw06.TuneUntil", spec := "tuneUntil", unfollowed := true, recurses := true, apart := false }
def TuneUntilSaid : Prop := tuneUntilRow.holds Try.pinned (OpenSpec.ofChange tuneUntilSpec)

/-- ITS FALSE NEIGHBOUR: 'it returns false'. Refute it at one input. -/
def tuneUntilWrong : ChangeSpec := { name := "tuneUntil", fn := fun _ => fun
  | [d1, d2, d3] => { results := [.lit (.bool false)], args := [d1, d2, d3] }
  | _ => none }
def TuneUntilWrongFalsely : Prop := tuneUntilRow.holds Try.pinned (OpenSpec.ofChange tuneUntilWrong)

/-- 'couplantlaw06.TuneDone': WHATEVER THE INPUT: true; the input reads as it did. -/
def tuneDoneSpec : ChangeSpec := { name := "tuneDone", fn := fun _ => fun
  | [d1, d2, d3] => { results := [.lit (.bool true)], args := [d1, d2, d3] }
  | _ => none }
def tuneDoneRow : OpenClaim := { program := "ytipckfokanlcoaa", sum := "b0b23d96e90eae02052eab5af6ac1bd48e170f103c71655e21936134c904c42a", func := "couplant/couplantlaw06.TuneDone", spec := "tuneDone", unfollowed := true, recurses := true, apart := false }
def TuneDoneSaid : Prop := tuneDoneRow.holds Try.pinned (OpenSpec.ofChange tuneDoneSpec)

/-- ITS FALSE NEIGHBOUR: 'it returns false'. Refute it at one input. -/
def tuneDoneWrong : ChangeSpec := { name := "tuneDone", fn := fun _ => fun
  | [d1, d2, d3] => { results := [.lit (.bool false)], args := [d1, d2, d3] }
  | _ => none }
def TuneDoneWrongFalsely : Prop := tuneDoneRow.holds Try.pinned (OpenSpec.ofChange tuneDoneWrong)

/-- 'couplanttop.TopDayLater': WHATEVER THE INPUT: true; the input reads as it did. -/
def topDayLaterSpec : ChangeSpec := { name := "topDayLater", fn := fun _ => fun
  | [d1, d2, d3] => { results := [.lit (.bool true)], args := [d1, d2, d3] }
  | _ => none }
def topDayLaterRow : OpenClaim := { program := "ytipckfokanlcoaa", sum := "b0b23d96e90eae02052eab5af6ac1bd48e170f103c71655e21936134c904c42a", func := "couplant/couplanttop.TopDayLater", spec := "topDayLater", unfollowed := true, recurses := true, apart := false }
def TopDayLaterSaid : Prop := topDayLaterRow.holds Try.pinned (OpenSpec.ofChange topDayLaterSpec)

/-- ITS FALSE NEIGHBOUR: 'it returns false'. Refute it at one input. -/
def topDayLaterWrong : ChangeSpec := { name := "topDayLater", fn := fun _ => fun
  | [d1, d2, d3] => { results := [.lit (.bool false)], args := [d1, d2, d3] }
  | _ => none }
def TopDayLaterWrongFalsely : Prop := topDayLaterRow.holds Try.pinned (OpenSpec.ofChange topDayLaterWrong)

/- THE SECOND FORM. 'bulk': how many values and letters a reading holds, each counted each time it is reached (what is shared counts as often as it is met; a slice's spare places count too). A statement '..UptoSaid' is the law's where the arguments, and the package variables that the reading takes, are together of bulk at most 1048576: NARROWER than '..Said'. Prove '..Said' where nothing that the law and all that it calls make is longer than what came in: it says more and counts as full. Else prove '..UptoSaid'. A law counts once. -/
mutual
def uptoBulk {H : Type} : DataW H → Nat
  | .lit (.string bytes) => bytes.length + 1
  | .lit _ => 1
  | .nil => 1
  | .ptr d => uptoBulk d + 1
  | .slice elems spare => uptoBulkAll elems + uptoBulkAll spare + 1
  | .agg parts => uptoBulkAll parts + 1
  | .iface _ d => uptoBulk d + 1
  | .map entries => uptoBulkEntries entries + 1
  | .held _ => 1
def uptoBulkAll {H : Type} : List (DataW H) → Nat
  | [] => 0
  | d :: r => uptoBulk d + uptoBulkAll r
def uptoBulkEntries {H : Type} : List (Lit × DataW H) → Nat
  | [] => 0
  | x :: r => uptoBulkEntry x + uptoBulkEntries r
def uptoBulkEntry {H : Type} : Lit × DataW H → Nat
  | (.string bytes, d) => bytes.length + uptoBulk d + 1
  | (_, d) => uptoBulk d + 1
 end
def uptoSmall : (H : Type) → List (DataW H) → Bool := fun _ ds => decide (uptoBulkAll ds ≤ 1048576)
def OpenSpec.upto (s : _root_.Go.ChangeSpec) : _root_.Go.OpenSpec := { _root_.Go.OpenSpec.ofChange s with cond := some uptoSmall }

/-- 'couplantlaw06.TuneTables', WHERE WHAT IT READS IS OF BULK AT MOST 1048576: true; the input reads as it did. -/
def tuneTablesUptoRow : OpenClaim := { program := "ytipckfokanlcoaa", sum := "b0b23d96e90eae02052eab5af6ac1bd48e170f103c71655e21936134c904c42a", func := "couplant/couplantlaw06.TuneTables", spec := "tuneTables", unfollowed := true, recurses := true, apart := false, narrowed := true }
def TuneTablesUptoSaid : Prop := tuneTablesUptoRow.holds Try.pinned (OpenSpec.upto tuneTablesSpec)

/-- 'couplantlaw06.TuneEqualises', WHERE WHAT IT READS IS OF BULK AT MOST 1048576: true; the input reads as it did. -/
def tuneEqualisesUptoRow : OpenClaim := { program := "ytipckfokanlcoaa", sum := "b0b23d96e90eae02052eab5af6ac1bd48e170f103c71655e21936134c904c42a", func := "couplant/couplantlaw06.TuneEqualises", spec := "tuneEqualises", unfollowed := true, recurses := true, apart := false, narrowed := true }
def TuneEqualisesUptoSaid : Prop := tuneEqualisesUptoRow.holds Try.pinned (OpenSpec.upto tuneEqualisesSpec)

/-- 'couplantlaw06.TuneThins', WHERE WHAT IT READS IS OF BULK AT MOST 1048576: true; the input reads as it did. -/
def tuneThinsUptoRow : OpenClaim := { program := "ytipckfokanlcoaa", sum := "b0b23d96e90eae02052eab5af6ac1bd48e170f103c71655e21936134c904c42a", func := "couplant/couplantlaw06.TuneThins", spec := "tuneThins", unfollowed := true, recurses := true, apart := false, narrowed := true }
def TuneThinsUptoSaid : Prop := tuneThinsUptoRow.holds Try.pinned (OpenSpec.upto tuneThinsSpec)

/-- 'couplantlaw06.TuneThinnest', WHERE WHAT IT READS IS OF BULK AT MOST 1048576: true; the input reads as it did. -/
def tuneThinnestUptoRow : OpenClaim := { program := "ytipckfokanlcoaa", sum := "b0b23d96e90eae02052eab5af6ac1bd48e170f103c71655e21936134c904c42a", func := "couplant/couplantlaw06.TuneThinnest", spec := "tuneThinnest", unfollowed := true, recurses := true, apart := false, narrowed := true }
def TuneThinnestUptoSaid : Prop := tuneThinnestUptoRow.holds Try.pinned (OpenSpec.upto tuneThinnestSpec)

/-- 'couplantlaw06.TuneArcs', WHERE WHAT IT READS IS OF BULK AT MOST 1048576: true; the input reads as it did. -/
def tuneArcsUptoRow : OpenClaim := { program := "ytipckfokanlcoaa", sum := "b0b23d96e90eae02052eab5af6ac1bd48e170f103c71655e21936134c904c42a", func := "couplant/couplantlaw06.TuneArcs", spec := "tuneArcs", unfollowed := true, recurses := true, apart := false, narrowed := true }
def TuneArcsUptoSaid : Prop := tuneArcsUptoRow.holds Try.pinned (OpenSpec.upto tuneArcsSpec)

/-- 'couplantlaw06.TuneContradicts', WHERE WHAT IT READS IS OF BULK AT MOST 1048576: true; the input reads as it did. -/
def tuneContradictsUptoRow : OpenClaim := { program := "ytipckfokanlcoaa", sum := "b0b23d96e90eae02052eab5af6ac1bd48e170f103c71655e21936134c904c42a", func := "couplant/couplantlaw06.TuneContradicts", spec := "tuneContradicts", unfollowed := true, recurses := true, apart := false, narrowed := true }
def TuneContradictsUptoSaid : Prop := tuneContradictsUptoRow.holds Try.pinned (OpenSpec.upto tuneContradictsSpec)

/-- 'couplantlaw06.TuneExplained', WHERE WHAT IT READS IS OF BULK AT MOST 1048576: true; the input reads as it did. -/
def tuneExplainedUptoRow : OpenClaim := { program := "ytipckfokanlcoaa", sum := "b0b23d96e90eae02052eab5af6ac1bd48e170f103c71655e21936134c904c42a", func := "couplant/couplantlaw06.TuneExplained", spec := "tuneExplained", unfollowed := true, recurses := true, apart := false, narrowed := true }
def TuneExplainedUptoSaid : Prop := tuneExplainedUptoRow.holds Try.pinned (OpenSpec.upto tuneExplainedSpec)

/-- 'couplantlaw06.TuneWears', WHERE WHAT IT READS IS OF BULK AT MOST 1048576: true; the input reads as it did. -/
def tuneWearsUptoRow : OpenClaim := { program := "ytipckfokanlcoaa", sum := "b0b23d96e90eae02052eab5af6ac1bd48e170f103c71655e21936134c904c42a", func := "couplant/couplantlaw06.TuneWears", spec := "tuneWears", unfollowed := true, recurses := true, apart := false, narrowed := true }
def TuneWearsUptoSaid : Prop := tuneWearsUptoRow.holds Try.pinned (OpenSpec.upto tuneWearsSpec)

/-- 'couplantlaw06.TuneUneven', WHERE WHAT IT READS IS OF BULK AT MOST 1048576: true; the input reads as it did. -/
def tuneUnevenUptoRow : OpenClaim := { program := "ytipckfokanlcoaa", sum := "b0b23d96e90eae02052eab5af6ac1bd48e170f103c71655e21936134c904c42a", func := "couplant/couplantlaw06.TuneUneven", spec := "tuneUneven", unfollowed := true, recurses := true, apart := false, narrowed := true }
def TuneUnevenUptoSaid : Prop := tuneUnevenUptoRow.holds Try.pinned (OpenSpec.upto tuneUnevenSpec)

/-- 'couplantlaw06.TuneSteps', WHERE WHAT IT READS IS OF BULK AT MOST 1048576: true; the input reads as it did. -/
def tuneStepsUptoRow : OpenClaim := { program := "ytipckfokanlcoaa", sum := "b0b23d96e90eae02052eab5af6ac1bd48e170f103c71655e21936134c904c42a", func := "couplant/couplantlaw06.TuneSteps", spec := "tuneSteps", unfollowed := true, recurses := true, apart := false, narrowed := true }
def TuneStepsUptoSaid : Prop := tuneStepsUptoRow.holds Try.pinned (OpenSpec.upto tuneStepsSpec)

/-- 'couplantlaw06.TuneValid', WHERE WHAT IT READS IS OF BULK AT MOST 1048576: true; the input reads as it did. -/
def tuneValidUptoRow : OpenClaim := { program := "ytipckfokanlcoaa", sum := "b0b23d96e90eae02052eab5af6ac1bd48e170f103c71655e21936134c904c42a", func := "couplant/couplantlaw06.TuneValid", spec := "tuneValid", unfollowed := true, recurses := true, apart := false, narrowed := true }
def TuneValidUptoSaid : Prop := tuneValidUptoRow.holds Try.pinned (OpenSpec.upto tuneValidSpec)

/-- 'couplantlaw06.TuneUntil', WHERE WHAT IT READS IS OF BULK AT MOST 1048576: true; the input reads as it did. -/
def tuneUntilUptoRow : OpenClaim := { program := "ytipckfokanlcoaa", sum := "b0b23d96e90eae02052eab5af6ac1bd48e170f103c71655e21936134c904c42a", func := "couplant/couplantlaw06.TuneUntil", spec := "tuneUntil", unfollowed := true, recurses := true, apart := false, narrowed := true }
def TuneUntilUptoSaid : Prop := tuneUntilUptoRow.holds Try.pinned (OpenSpec.upto tuneUntilSpec)

/-- 'couplantlaw06.TuneDone', WHERE WHAT IT READS IS OF BULK AT MOST 1048576: true; the input reads as it did. -/
def tuneDoneUptoRow : OpenClaim := { program := "ytipckfokanlcoaa", sum := "b0b23d96e90eae02052eab5af6ac1bd48e170f103c71655e21936134c904c42a", func := "couplant/couplantlaw06.TuneDone", spec := "tuneDone", unfollowed := true, recurses := true, apart := false, narrowed := true }
def TuneDoneUptoSaid : Prop := tuneDoneUptoRow.holds Try.pinned (OpenSpec.upto tuneDoneSpec)

/-- 'couplanttop.TopDayLater', WHERE WHAT IT READS IS OF BULK AT MOST 1048576: true; the input reads as it did. -/
def topDayLaterUptoRow : OpenClaim := { program := "ytipckfokanlcoaa", sum := "b0b23d96e90eae02052eab5af6ac1bd48e170f103c71655e21936134c904c42a", func := "couplant/couplanttop.TopDayLater", spec := "topDayLater", unfollowed := true, recurses := true, apart := false, narrowed := true }
def TopDayLaterUptoSaid : Prop := topDayLaterUptoRow.holds Try.pinned (OpenSpec.upto topDayLaterSpec)

end Rows
end Go.Proofs.Ytipckfokanlcoaa
