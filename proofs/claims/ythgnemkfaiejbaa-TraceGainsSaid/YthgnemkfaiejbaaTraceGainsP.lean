/-
  PROVED: TraceGains returns true for every list of numbers and every fraction, and each argument reads afterwards as it read before.
  CONDITIONS: none beyond the given row's own.
-/
import Derived.Test.YthgnemkfaiejbaaTFr
import Derived.Test.YthgnemkfaiejbaaTraceGnT
set_option linter.unusedVariables false
set_option linter.unusedSimpArgs false
namespace Go.Proofs.Ythgnemkfaiejbaa.traceGainsDone
open Go.ChangeShapes Go.WideShapes Go.ChangeAt Go.RowKit Go.Joins

set_option maxRecDepth 100000 in
theorem lifted (os : Os) (started : os.Started) (H : Type) (enc : TypeId × Value → H) :
    ReturnsInHanded {} Try.checked os 10 .any (Rows.traceGainsSpec.pre6 enc Try.prog Try.f10 Rows.traceGainsRow.domain false) (Rows.traceGainsSpec.post enc Try.prog Try.f10 false true false false) := by
  refine returnsInHanded_of_change (C := Try.checked) own started (by kernel_rfl) Try.func10
    (ChangeSpec.witness6 (enc := enc) (C := Try.checked) false ⟨#[], #[.slice none 0 0, .agg #[.int .i64 0, .int .i64 0]], []⟩ 8 (by kernel_rfl) (by kernel_rfl) (by kernel_rfl) (by kernel_rfl)) ?_
  intro W base args ds gs before hval0 hW hcnd _
  have hval : ∀ (j : Nat) t v, Try.f10.params[j]? = some t → args[j]? = some v → Value.okWide Try.prog W .any base t v := hval0
  have hW' := hW
  obtain ⟨p, q, hA0, hV, rfl, hfz, hnd⟩ := hW
  have hA : DataW.TrodAll enc Try.prog W 0 (fun _ => true) true Try.f10.params.toList args.toList ds p := hA0
  rw [Try.params10] at hA hval
  obtain ⟨v0, vs0, d0, ds0, p0, q0, hargs, rfl, rfl, h0, r0⟩ := trodAll_cons hA
  obtain ⟨v1, vs1, d1, ds1, p1, q1, rfl, rfl, rfl, h1, r1⟩ := trodAll_cons r0
  obtain ⟨rfl, rfl, rfl⟩ := trodAll_nil r1
  obtain rfl : args = #[v0, v1] := by cases args; simp_all
  obtain ⟨rfl, rfl⟩ := trodVars_none hV
  have k0 := h0
  have lt0 : ∀ x ∈ p0, x.block < W.heap.size := by obtain ⟨m, hm⟩ := k0; exact DataW.trod_lt m _ _ _ hm
  obtain ⟨x0, n0, hr0, hl0, hb0⟩ := irow_open Try.underlying50 (hval 0 50 v0 rfl rfl) h0
  have k1 := h1
  have lt1 : ∀ x ∈ p1, x.block < W.heap.size := by obtain ⟨m, hm⟩ := k1; exact DataW.trod_lt m _ _ _ hm
  obtain ⟨x1_0, x1_1, rfl, R1_0, R1_1⟩ : ∃ x1_0 x1_1, v1 = .agg #[.int .i64 x1_0, .int .i64 x1_1] ∧ (-9223372036854775808 ≤ x1_0 ∧ x1_0 ≤ 9223372036854775807) ∧ (-9223372036854775808 ≤ x1_1 ∧ x1_1 ≤ 9223372036854775807) := by
    obtain ⟨l, hl, hn, hw⟩ := struct_intsW Try.underlying84 (by kernel_rfl) (by kernel_rfl) Try.underlying3 (show Try.prog.cellsOf 84 = 2 from by kernel_rfl) (hval 1 84 v1 rfl rfl) h1
    obtain ⟨x1_0, x1_1, rfl⟩ := list2 hn
    exact ⟨x1_0, x1_1, hl, wf_in (hw _ (by simp)), wf_in (hw _ (by simp))⟩
  clear hA0 hval0
  refine (traceGains_any W v0 x0 n0 (Lib.hid hr0) x1_0 x1_1 ⟨R1_0, R1_1⟩).mono fun e W' ⟨he, bel⟩ => ?_
  subst he
  exact ⟨_, rfl, _, _, _, [], _, [], hW', trodAll_mk1 (shut_bool Try.underlying4 _), (trodAll_cons_mk (Below.trod laidOut (by kernel_rfl) (of_decide_eq_true (by kernel_rfl)) k0 bel lt0) (trodAll_cons_mk (Below.trod laidOut (by kernel_rfl) (of_decide_eq_true (by kernel_rfl)) k1 bel lt1) trodAll_mk0)), rfl, bel.frame _, fun h => by cases h⟩

theorem c1 : Rows.traceGainsRow.wf (OpenSpec.ofChange Rows.traceGainsSpec) = true := by kernel_rfl
theorem c4 : Try.f10.params.all (Try.prog.readableRec ·) = true := by kernel_rfl
theorem c5 : namedTie Try.prog Rows.traceGainsRow.named Rows.traceGainsSpec.vars = true := by kernel_rfl
theorem c6 : (Rows.traceGainsRow.stops == []) = true := by kernel_rfl
theorem c8 : (Rows.traceGainsRow.knobs == []) = true := by kernel_rfl
theorem c10 : (Rows.traceGainsRow.inPlace == Try.prog.inPlace 10) = true := by kernel_rfl
theorem c11 : (Rows.traceGainsRow.unfollowed == Try.prog.unfollowed 10) = true := by kernel_rfl
theorem c12 : (Rows.traceGainsRow.recurses == Try.prog.recurses 10) = true := by kernel_rfl
theorem c13 : (Rows.traceGainsRow.named == Try.prog.varsNamed 10) = true := by kernel_rfl
theorem c14 : (Rows.traceGainsRow.maps == (Try.f10.params.toList ++ Rows.traceGainsSpec.plain.varTypes Try.prog).any (Try.prog.mapsRec ·)) = true := by kernel_rfl
theorem c15 : (Rows.traceGainsRow.ifaces == (Try.f10.params.toList ++ Rows.traceGainsSpec.plain.varTypes Try.prog).any (Try.prog.ifacesRec ·)) = true := by kernel_rfl
theorem c16 : (Rows.traceGainsRow.mapsOut == Try.prog.mapsAmong Try.f10.resultTypes.toList) = true := by kernel_rfl
theorem c17 : (Rows.traceGainsRow.loops == (Try.f10.params.toList ++ Rows.traceGainsSpec.plain.varTypes Try.prog).any (Try.prog.loopsFrom ·)) = true := by kernel_rfl
theorem c18 : (Rows.traceGainsRow.wideKeys == (Try.f10.params.toList ++ Rows.traceGainsSpec.plain.varTypes Try.prog ++ Try.f10.resultTypes.toList).any (Try.prog.wideKeysFrom ·)) = true := by kernel_rfl
theorem c19 : Rows.traceGainsSpec.vars.all (Try.prog.varReadable ·) = true := by kernel_rfl
theorem c20 : Try.f10.resultTypes.all (fun t => Try.prog.readableRec t && decide (t < Try.prog.types.size)) = true := by kernel_rfl
theorem c21 : (Rows.traceGainsRow.ifacesOut == Try.f10.resultTypes.toList.any (Try.prog.ifacesRec ·)) = true := by kernel_rfl
theorem c22 : (Rows.traceGainsRow.loopsOut == Try.f10.resultTypes.toList.any (Try.prog.loopsFrom ·)) = true := by kernel_rfl
theorem c23 : (Rows.traceGainsRow.plainKeys == Try.prog.plainKeys) = true := by kernel_rfl
theorem c24 : Rows.traceGainsRow.shortTexts.isNone = true := by kernel_rfl
theorem c27 : (Rows.traceGainsRow.lifted == Try.prog.liftsFinal) = true := by kernel_rfl
theorem c28 : (Try.prog.make == some Rows.traceGainsRow.make) = true := by kernel_rfl
theorem c29 : (Rows.traceGainsRow.kinds == (if Rows.traceGainsRow.domain.isEmpty then [] else Try.f10.params.toList.map fun t => match Try.prog.underlying t with | some (.int k) => some k | _ => none)) = true := by kernel_rfl
theorem c30 : (Rows.traceGainsRow.pinned == Rows.traceGainsRow.pinnedBy) = true := by kernel_rfl
theorem c31 : (Rows.traceGainsRow.veiled == (Try.f10.params.toList ++ Rows.traceGainsSpec.plain.varTypes Try.prog ++ Try.f10.resultTypes.toList).any (Try.prog.veiledRec ·)) = true := by kernel_rfl
theorem c32 : Rows.traceGainsRow.veiledFits Try.prog Try.f10.params.toList (Try.f10.params.toList ++ Rows.traceGainsSpec.plain.varTypes Try.prog ++ Try.f10.resultTypes.toList) = true := by kernel_rfl
set_option maxRecDepth 100000 in
theorem closed : joinedFacts Try.prog 10 Try.f10 Rows.traceGainsSpec Rows.traceGainsRow = true :=
  joined_mk c1 laidOut PmapsRowed c4 c5 c6 PpStops c8 PpKnobs c10 c11 c12 c13 c14 c15 c16 c17 c18 c19 c20 c21 c22 c23 c24 PpHeard PpEnter c27 c28 c29 c30 c31 c32
theorem named : Try.prog.funcNamed Rows.traceGainsRow.func = some 10 := by kernel_rfl
theorem inst : Try.f10.isInstance Try.prog Rows.traceGainsRow.origin Rows.traceGainsRow.targs := of_decide_eq_true (by kernel_rfl)
theorem wrapped : Try.f10.isWrapper Try.prog Rows.traceGainsRow.wrapper Rows.traceGainsRow.mainSum := by unfold Func.isWrapper; first | (rw [if_pos (by decide +kernel)]; kernel_rfl) | (rw [if_neg (by decide +kernel)]; exact ⟨rfl, rfl⟩)
theorem over : Rows.traceGainsRow.holds Try.pinned (OpenSpec.ofChange Rows.traceGainsSpec) :=
  OpenClaim.holds_of_wide 10 Try.f10 rfl rfl rfl rfl rfl rfl rfl ⟨rfl, rfl, rfl, rfl, rfl⟩ rfl rfl rfl rfl rfl named Try.func10 closed inst wrapped
    (fun os started H enc _ => lifted os started H enc)

/-- the statement -/
theorem proved : Rows.TraceGainsSaid := over
#print axioms proved
end Go.Proofs.Ythgnemkfaiejbaa.traceGainsDone
