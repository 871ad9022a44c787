/-
  PROVED: TraceQuarter returns true for every two numbers, and each argument reads afterwards as it read before.
  CONDITIONS: none beyond the given row's own.
-/
import Derived.Test.YthgnemkfaiejbaaFr
import Derived.Test.YthgnemkfaiejbaaTraceQuarter
set_option linter.unusedVariables false
set_option linter.unusedSimpArgs false
namespace Go.Proofs.Ythgnemkfaiejbaa.traceQuarterDone
open Go.ChangeShapes Go.WideShapes Go.ChangeAt Go.RowKit Go.Joins

set_option maxRecDepth 100000 in
theorem lifted (os : Os) (started : os.Started) (H : Type) (enc : TypeId × Value → H) :
    ReturnsInHanded {} Try.checked os 13 .any (Rows.traceQuarterSpec.pre6 enc Try.prog Try.f13 Rows.traceQuarterRow.domain false) (Rows.traceQuarterSpec.post enc Try.prog Try.f13 false true false false) := by
  refine returnsInHanded_of_change (C := Try.checked) own started (by kernel_rfl) Try.func13
    (ChangeSpec.witness6 (enc := enc) (C := Try.checked) false ⟨#[], #[.int .i64 0, .int .i64 0], []⟩ 8 (by kernel_rfl) (by kernel_rfl) (by kernel_rfl) (by kernel_rfl)) ?_
  intro W base args ds gs before hval0 hW hcnd _
  have hval : ∀ (j : Nat) t v, Try.f13.params[j]? = some t → args[j]? = some v → Value.okWide Try.prog W .any base t v := hval0
  have hW' := hW
  obtain ⟨p, q, hA0, hV, rfl, hfz, hnd⟩ := hW
  have hA : DataW.TrodAll enc Try.prog W 0 (fun _ => true) true Try.f13.params.toList args.toList ds p := hA0
  rw [Try.params13] at hA hval
  obtain ⟨v0, vs0, d0, ds0, p0, q0, hargs, rfl, rfl, h0, r0⟩ := trodAll_cons hA
  obtain ⟨v1, vs1, d1, ds1, p1, q1, rfl, rfl, rfl, h1, r1⟩ := trodAll_cons r0
  obtain ⟨rfl, rfl, rfl⟩ := trodAll_nil r1
  obtain rfl : args = #[v0, v1] := by cases args; simp_all
  obtain ⟨rfl, rfl⟩ := trodVars_none hV
  obtain ⟨x0, rfl, rfl, rfl, wx0⟩ := open_int Try.underlying3 (hval 0 3 v0 rfl rfl) h0
  obtain ⟨x1, rfl, rfl, rfl, wx1⟩ := open_int Try.underlying3 (hval 1 3 v1 rfl rfl) h1
  clear hA0 hval0
  refine (traceQuarter_any x0 x1 W).mono fun e W' ⟨he, bel⟩ => ?_
  subst he
  exact ⟨_, rfl, _, _, _, [], _, [], hW', trodAll_mk1 (shut_bool Try.underlying4 _), (trodAll_cons_mk (shut_int Try.underlying3 wx0) (trodAll_cons_mk (shut_int Try.underlying3 wx1) trodAll_mk0)), rfl, bel.frame _, fun h => by cases h⟩

theorem c1 : Rows.traceQuarterRow.wf (OpenSpec.ofChange Rows.traceQuarterSpec) = true := by kernel_rfl
theorem c4 : Try.f13.params.all (Try.prog.readableRec ·) = true := by kernel_rfl
theorem c5 : namedTie Try.prog Rows.traceQuarterRow.named Rows.traceQuarterSpec.vars = true := by kernel_rfl
theorem c6 : (Rows.traceQuarterRow.stops == []) = true := by kernel_rfl
theorem c8 : (Rows.traceQuarterRow.knobs == []) = true := by kernel_rfl
theorem c10 : (Rows.traceQuarterRow.inPlace == Try.prog.inPlace 13) = true := by kernel_rfl
theorem c11 : (Rows.traceQuarterRow.unfollowed == Try.prog.unfollowed 13) = true := by kernel_rfl
theorem c12 : (Rows.traceQuarterRow.recurses == Try.prog.recurses 13) = true := by kernel_rfl
theorem c13 : (Rows.traceQuarterRow.named == Try.prog.varsNamed 13) = true := by kernel_rfl
theorem c14 : (Rows.traceQuarterRow.maps == (Try.f13.params.toList ++ Rows.traceQuarterSpec.plain.varTypes Try.prog).any (Try.prog.mapsRec ·)) = true := by kernel_rfl
theorem c15 : (Rows.traceQuarterRow.ifaces == (Try.f13.params.toList ++ Rows.traceQuarterSpec.plain.varTypes Try.prog).any (Try.prog.ifacesRec ·)) = true := by kernel_rfl
theorem c16 : (Rows.traceQuarterRow.mapsOut == Try.prog.mapsAmong Try.f13.resultTypes.toList) = true := by kernel_rfl
theorem c17 : (Rows.traceQuarterRow.loops == (Try.f13.params.toList ++ Rows.traceQuarterSpec.plain.varTypes Try.prog).any (Try.prog.loopsFrom ·)) = true := by kernel_rfl
theorem c18 : (Rows.traceQuarterRow.wideKeys == (Try.f13.params.toList ++ Rows.traceQuarterSpec.plain.varTypes Try.prog ++ Try.f13.resultTypes.toList).any (Try.prog.wideKeysFrom ·)) = true := by kernel_rfl
theorem c19 : Rows.traceQuarterSpec.vars.all (Try.prog.varReadable ·) = true := by kernel_rfl
theorem c20 : Try.f13.resultTypes.all (fun t => Try.prog.readableRec t && decide (t < Try.prog.types.size)) = true := by kernel_rfl
theorem c21 : (Rows.traceQuarterRow.ifacesOut == Try.f13.resultTypes.toList.any (Try.prog.ifacesRec ·)) = true := by kernel_rfl
theorem c22 : (Rows.traceQuarterRow.loopsOut == Try.f13.resultTypes.toList.any (Try.prog.loopsFrom ·)) = true := by kernel_rfl
theorem c23 : (Rows.traceQuarterRow.plainKeys == Try.prog.plainKeys) = true := by kernel_rfl
theorem c24 : Rows.traceQuarterRow.shortTexts.isNone = true := by kernel_rfl
theorem c27 : (Rows.traceQuarterRow.lifted == Try.prog.liftsFinal) = true := by kernel_rfl
theorem c28 : (Try.prog.make == some Rows.traceQuarterRow.make) = true := by kernel_rfl
theorem c29 : (Rows.traceQuarterRow.kinds == (if Rows.traceQuarterRow.domain.isEmpty then [] else Try.f13.params.toList.map fun t => match Try.prog.underlying t with | some (.int k) => some k | _ => none)) = true := by kernel_rfl
theorem c30 : (Rows.traceQuarterRow.pinned == Rows.traceQuarterRow.pinnedBy) = true := by kernel_rfl
theorem c31 : (Rows.traceQuarterRow.veiled == (Try.f13.params.toList ++ Rows.traceQuarterSpec.plain.varTypes Try.prog ++ Try.f13.resultTypes.toList).any (Try.prog.veiledRec ·)) = true := by kernel_rfl
theorem c32 : Rows.traceQuarterRow.veiledFits Try.prog Try.f13.params.toList (Try.f13.params.toList ++ Rows.traceQuarterSpec.plain.varTypes Try.prog ++ Try.f13.resultTypes.toList) = true := by kernel_rfl
set_option maxRecDepth 100000 in
theorem closed : joinedFacts Try.prog 13 Try.f13 Rows.traceQuarterSpec Rows.traceQuarterRow = true :=
  joined_mk c1 laidOut PmapsRowed c4 c5 c6 PpStops c8 PpKnobs c10 c11 c12 c13 c14 c15 c16 c17 c18 c19 c20 c21 c22 c23 c24 PpHeard PpEnter c27 c28 c29 c30 c31 c32
theorem named : Try.prog.funcNamed Rows.traceQuarterRow.func = some 13 := by kernel_rfl
theorem inst : Try.f13.isInstance Try.prog Rows.traceQuarterRow.origin Rows.traceQuarterRow.targs := of_decide_eq_true (by kernel_rfl)
theorem wrapped : Try.f13.isWrapper Try.prog Rows.traceQuarterRow.wrapper Rows.traceQuarterRow.mainSum := by unfold Func.isWrapper; first | (rw [if_pos (by decide +kernel)]; kernel_rfl) | (rw [if_neg (by decide +kernel)]; exact ⟨rfl, rfl⟩)
theorem over : Rows.traceQuarterRow.holds Try.pinned (OpenSpec.ofChange Rows.traceQuarterSpec) :=
  OpenClaim.holds_of_wide 13 Try.f13 rfl rfl rfl rfl rfl rfl rfl ⟨rfl, rfl, rfl, rfl, rfl⟩ rfl rfl rfl rfl rfl named Try.func13 closed inst wrapped
    (fun os started H enc _ => lifted os started H enc)

/-- the statement -/
theorem proved : Rows.TraceQuarterSaid := over
#print axioms proved
end Go.Proofs.Ythgnemkfaiejbaa.traceQuarterDone
