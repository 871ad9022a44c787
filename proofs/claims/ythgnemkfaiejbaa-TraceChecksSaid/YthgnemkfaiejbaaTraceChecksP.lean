/-
  PROVED: TraceChecks returns true for every list of floats, whatever their bits, and the list reads afterwards as it read before.
  CONDITIONS: none beyond the given row's own.
-/
import Derived.Test.YthgnemkfaiejbaaTOpen
import Derived.Test.YthgnemkfaiejbaaTraceChk
set_option linter.unusedVariables false
set_option linter.unusedSimpArgs false
namespace Go.Proofs.Ythgnemkfaiejbaa.traceChecksDone
open Go.ChangeShapes Go.WideShapes Go.ChangeAt Go.RowKit Go.Joins

set_option maxRecDepth 100000 in
theorem lifted (os : Os) (started : os.Started) (H : Type) (enc : TypeId × Value → H) :
    ReturnsInHanded {} Try.checked os 3 .any (Rows.traceChecksSpec.pre6 enc Try.prog Try.f3 Rows.traceChecksRow.domain false) (Rows.traceChecksSpec.post enc Try.prog Try.f3 false true false false) := by
  refine returnsInHanded_of_change (C := Try.checked) own started (by kernel_rfl) Try.func3
    (ChangeSpec.witness6 (enc := enc) (C := Try.checked) false ⟨#[], #[.slice none 0 0], []⟩ 8 (by kernel_rfl) (by kernel_rfl) (by kernel_rfl) (by kernel_rfl)) ?_
  intro W base args ds gs before hval0 hW hcnd _
  have hval : ∀ (j : Nat) t v, Try.f3.params[j]? = some t → args[j]? = some v → Value.okWide Try.prog W .any base t v := hval0
  have hW' := hW
  obtain ⟨p, q, hA0, hV, rfl, hfz, hnd⟩ := hW
  have hA : DataW.TrodAll enc Try.prog W 0 (fun _ => true) true Try.f3.params.toList args.toList ds p := hA0
  rw [Try.params3] at hA hval
  obtain ⟨v0, vs0, d0, ds0, p0, q0, hargs, rfl, rfl, h0, r0⟩ := trodAll_cons hA
  obtain ⟨rfl, rfl, rfl⟩ := trodAll_nil r0
  obtain rfl : args = #[v0] := by cases args; simp_all
  obtain ⟨rfl, rfl⟩ := trodVars_none hV
  have k0 := h0
  have lt0 : ∀ x ∈ p0, x.block < W.heap.size := by obtain ⟨m, hm⟩ := k0; exact DataW.trod_lt m _ _ _ hm
  obtain ⟨x0, n0, hr0⟩ := frow_open (hval 0 22 v0 rfl rfl) h0
  clear hA0 hval0
  refine (traceChecks_any W v0 x0 n0 (Lib.hid hr0)).mono fun e W' ⟨he, bel⟩ => ?_
  subst he
  exact ⟨_, rfl, _, _, _, [], _, [], hW', trodAll_mk1 (shut_bool Try.underlying4 _), (trodAll_cons_mk (Below.trod laidOut (by kernel_rfl) (of_decide_eq_true (by kernel_rfl)) k0 bel lt0) trodAll_mk0), rfl, bel.frame _, fun h => by cases h⟩

theorem c1 : Rows.traceChecksRow.wf (OpenSpec.ofChange Rows.traceChecksSpec) = true := by kernel_rfl
theorem c4 : Try.f3.params.all (Try.prog.readableRec ·) = true := by kernel_rfl
theorem c5 : namedTie Try.prog Rows.traceChecksRow.named Rows.traceChecksSpec.vars = true := by kernel_rfl
theorem c6 : (Rows.traceChecksRow.stops == []) = true := by kernel_rfl
theorem c8 : (Rows.traceChecksRow.knobs == []) = true := by kernel_rfl
theorem c10 : (Rows.traceChecksRow.inPlace == Try.prog.inPlace 3) = true := by kernel_rfl
theorem c11 : (Rows.traceChecksRow.unfollowed == Try.prog.unfollowed 3) = true := by kernel_rfl
theorem c12 : (Rows.traceChecksRow.recurses == Try.prog.recurses 3) = true := by kernel_rfl
theorem c13 : (Rows.traceChecksRow.named == Try.prog.varsNamed 3) = true := by kernel_rfl
theorem c14 : (Rows.traceChecksRow.maps == (Try.f3.params.toList ++ Rows.traceChecksSpec.plain.varTypes Try.prog).any (Try.prog.mapsRec ·)) = true := by kernel_rfl
theorem c15 : (Rows.traceChecksRow.ifaces == (Try.f3.params.toList ++ Rows.traceChecksSpec.plain.varTypes Try.prog).any (Try.prog.ifacesRec ·)) = true := by kernel_rfl
theorem c16 : (Rows.traceChecksRow.mapsOut == Try.prog.mapsAmong Try.f3.resultTypes.toList) = true := by kernel_rfl
theorem c17 : (Rows.traceChecksRow.loops == (Try.f3.params.toList ++ Rows.traceChecksSpec.plain.varTypes Try.prog).any (Try.prog.loopsFrom ·)) = true := by kernel_rfl
theorem c18 : (Rows.traceChecksRow.wideKeys == (Try.f3.params.toList ++ Rows.traceChecksSpec.plain.varTypes Try.prog ++ Try.f3.resultTypes.toList).any (Try.prog.wideKeysFrom ·)) = true := by kernel_rfl
theorem c19 : Rows.traceChecksSpec.vars.all (Try.prog.varReadable ·) = true := by kernel_rfl
theorem c20 : Try.f3.resultTypes.all (fun t => Try.prog.readableRec t && decide (t < Try.prog.types.size)) = true := by kernel_rfl
theorem c21 : (Rows.traceChecksRow.ifacesOut == Try.f3.resultTypes.toList.any (Try.prog.ifacesRec ·)) = true := by kernel_rfl
theorem c22 : (Rows.traceChecksRow.loopsOut == Try.f3.resultTypes.toList.any (Try.prog.loopsFrom ·)) = true := by kernel_rfl
theorem c23 : (Rows.traceChecksRow.plainKeys == Try.prog.plainKeys) = true := by kernel_rfl
theorem c24 : Rows.traceChecksRow.shortTexts.isNone = true := by kernel_rfl
theorem c27 : (Rows.traceChecksRow.lifted == Try.prog.liftsFinal) = true := by kernel_rfl
theorem c28 : (Try.prog.make == some Rows.traceChecksRow.make) = true := by kernel_rfl
theorem c29 : (Rows.traceChecksRow.kinds == (if Rows.traceChecksRow.domain.isEmpty then [] else Try.f3.params.toList.map fun t => match Try.prog.underlying t with | some (.int k) => some k | _ => none)) = true := by kernel_rfl
theorem c30 : (Rows.traceChecksRow.pinned == Rows.traceChecksRow.pinnedBy) = true := by kernel_rfl
theorem c31 : (Rows.traceChecksRow.veiled == (Try.f3.params.toList ++ Rows.traceChecksSpec.plain.varTypes Try.prog ++ Try.f3.resultTypes.toList).any (Try.prog.veiledRec ·)) = true := by kernel_rfl
theorem c32 : Rows.traceChecksRow.veiledFits Try.prog Try.f3.params.toList (Try.f3.params.toList ++ Rows.traceChecksSpec.plain.varTypes Try.prog ++ Try.f3.resultTypes.toList) = true := by kernel_rfl
set_option maxRecDepth 100000 in
theorem closed : joinedFacts Try.prog 3 Try.f3 Rows.traceChecksSpec Rows.traceChecksRow = true :=
  joined_mk c1 laidOut PmapsRowed c4 c5 c6 PpStops c8 PpKnobs c10 c11 c12 c13 c14 c15 c16 c17 c18 c19 c20 c21 c22 c23 c24 PpHeard PpEnter c27 c28 c29 c30 c31 c32
theorem named : Try.prog.funcNamed Rows.traceChecksRow.func = some 3 := by kernel_rfl
theorem inst : Try.f3.isInstance Try.prog Rows.traceChecksRow.origin Rows.traceChecksRow.targs := of_decide_eq_true (by kernel_rfl)
theorem wrapped : Try.f3.isWrapper Try.prog Rows.traceChecksRow.wrapper Rows.traceChecksRow.mainSum := by unfold Func.isWrapper; first | (rw [if_pos (by decide +kernel)]; kernel_rfl) | (rw [if_neg (by decide +kernel)]; exact ⟨rfl, rfl⟩)
theorem over : Rows.traceChecksRow.holds Try.pinned (OpenSpec.ofChange Rows.traceChecksSpec) :=
  OpenClaim.holds_of_wide 3 Try.f3 rfl rfl rfl rfl rfl rfl rfl ⟨rfl, rfl, rfl, rfl, rfl⟩ rfl rfl rfl rfl rfl named Try.func3 closed inst wrapped
    (fun os started H enc _ => lifted os started H enc)

/-- the statement -/
theorem proved : Rows.TraceChecksSaid := over
#print axioms proved
end Go.Proofs.Ythgnemkfaiejbaa.traceChecksDone
