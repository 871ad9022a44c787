/-
  PROVED: BenchNoise returns true for every three integers.
  CONDITIONS: none beyond the given row's own.
-/
import Derived.Test.YtlpjnhoafaamkaaFr
import Derived.Test.YtlpjnhoafaamkaaUNz
set_option linter.unusedVariables false
set_option linter.unusedSimpArgs false
namespace Go.Proofs.Ytlpjnhoafaamkaa.benchNoiseDone
open Go.ChangeShapes Go.WideShapes Go.ChangeAt Go.RowKit Go.Joins

set_option maxRecDepth 100000 in
theorem lifted (os : Os) (started : os.Started) (H : Type) (enc : TypeId × Value → H) :
    ReturnsInHanded {} Try.checked os 4 .any (Rows.benchNoiseSpec.pre6 enc Try.prog Try.f4 Rows.benchNoiseRow.domain false) (Rows.benchNoiseSpec.post enc Try.prog Try.f4 false true false false) := by
  refine returnsInHanded_of_change (C := Try.checked) own started (by kernel_rfl) Try.func4
    (ChangeSpec.witness6 (enc := enc) (C := Try.checked) false ⟨#[], #[.int .i64 0, .int .i64 0, .int .i64 0], []⟩ 8 (by kernel_rfl) (by kernel_rfl) (by kernel_rfl) (by kernel_rfl)) ?_
  intro W base args ds gs before hval0 hW hcnd _
  have hval : ∀ (j : Nat) t v, Try.f4.params[j]? = some t → args[j]? = some v → Value.okWide Try.prog W .any base t v := hval0
  have hW' := hW
  obtain ⟨p, q, hA0, hV, rfl, hfz, hnd⟩ := hW
  have hA : DataW.TrodAll enc Try.prog W 0 (fun _ => true) true Try.f4.params.toList args.toList ds p := hA0
  rw [Try.params4] at hA hval
  obtain ⟨v0, vs0, d0, ds0, p0, q0, hargs, rfl, rfl, h0, r0⟩ := trodAll_cons hA
  obtain ⟨v1, vs1, d1, ds1, p1, q1, rfl, rfl, rfl, h1, r1⟩ := trodAll_cons r0
  obtain ⟨v2, vs2, d2, ds2, p2, q2, rfl, rfl, rfl, h2, r2⟩ := trodAll_cons r1
  obtain ⟨rfl, rfl, rfl⟩ := trodAll_nil r2
  obtain rfl : args = #[v0, v1, v2] := by cases args; simp_all
  obtain ⟨rfl, rfl⟩ := trodVars_none hV
  obtain ⟨x0, rfl, rfl, rfl, wx0⟩ := open_int Try.underlying3 (hval 0 3 v0 rfl rfl) h0
  obtain ⟨x1, rfl, rfl, rfl, wx1⟩ := open_int Try.underlying3 (hval 1 3 v1 rfl rfl) h1
  obtain ⟨x2, rfl, rfl, rfl, wx2⟩ := open_int Try.underlying3 (hval 2 3 v2 rfl rfl) h2
  clear hA0 hval0
  refine (benchNoise_any x0 x1 x2 W).mono fun e W' ⟨he, bel⟩ => ?_
  subst he
  exact ⟨_, rfl, _, _, _, [], _, [], hW', trodAll_mk1 (shut_bool Try.underlying4 _), (trodAll_cons_mk (shut_int Try.underlying3 wx0) (trodAll_cons_mk (shut_int Try.underlying3 wx1) (trodAll_cons_mk (shut_int Try.underlying3 wx2) trodAll_mk0))), rfl, bel.frame _, fun h => by cases h⟩

theorem c1 : Rows.benchNoiseRow.wf (OpenSpec.ofChange Rows.benchNoiseSpec) = true := by kernel_rfl
theorem c4 : Try.f4.params.all (Try.prog.readableRec ·) = true := by kernel_rfl
theorem c5 : namedTie Try.prog Rows.benchNoiseRow.named Rows.benchNoiseSpec.vars = true := by kernel_rfl
theorem c6 : (Rows.benchNoiseRow.stops == []) = true := by kernel_rfl
theorem c8 : (Rows.benchNoiseRow.knobs == []) = true := by kernel_rfl
theorem c10 : (Rows.benchNoiseRow.inPlace == Try.prog.inPlace 4) = true := by kernel_rfl
theorem c11 : (Rows.benchNoiseRow.unfollowed == Try.prog.unfollowed 4) = true := by kernel_rfl
theorem c12 : (Rows.benchNoiseRow.recurses == Try.prog.recurses 4) = true := by kernel_rfl
theorem c13 : (Rows.benchNoiseRow.named == Try.prog.varsNamed 4) = true := by kernel_rfl
theorem c14 : (Rows.benchNoiseRow.maps == (Try.f4.params.toList ++ Rows.benchNoiseSpec.plain.varTypes Try.prog).any (Try.prog.mapsRec ·)) = true := by kernel_rfl
theorem c15 : (Rows.benchNoiseRow.ifaces == (Try.f4.params.toList ++ Rows.benchNoiseSpec.plain.varTypes Try.prog).any (Try.prog.ifacesRec ·)) = true := by kernel_rfl
theorem c16 : (Rows.benchNoiseRow.mapsOut == Try.prog.mapsAmong Try.f4.resultTypes.toList) = true := by kernel_rfl
theorem c17 : (Rows.benchNoiseRow.loops == (Try.f4.params.toList ++ Rows.benchNoiseSpec.plain.varTypes Try.prog).any (Try.prog.loopsFrom ·)) = true := by kernel_rfl
theorem c18 : (Rows.benchNoiseRow.wideKeys == (Try.f4.params.toList ++ Rows.benchNoiseSpec.plain.varTypes Try.prog ++ Try.f4.resultTypes.toList).any (Try.prog.wideKeysFrom ·)) = true := by kernel_rfl
theorem c19 : Rows.benchNoiseSpec.vars.all (Try.prog.varReadable ·) = true := by kernel_rfl
theorem c20 : Try.f4.resultTypes.all (fun t => Try.prog.readableRec t && decide (t < Try.prog.types.size)) = true := by kernel_rfl
theorem c21 : (Rows.benchNoiseRow.ifacesOut == Try.f4.resultTypes.toList.any (Try.prog.ifacesRec ·)) = true := by kernel_rfl
theorem c22 : (Rows.benchNoiseRow.loopsOut == Try.f4.resultTypes.toList.any (Try.prog.loopsFrom ·)) = true := by kernel_rfl
theorem c23 : (Rows.benchNoiseRow.plainKeys == Try.prog.plainKeys) = true := by kernel_rfl
theorem c24 : Rows.benchNoiseRow.shortTexts.isNone = true := by kernel_rfl
theorem c27 : (Rows.benchNoiseRow.lifted == Try.prog.liftsFinal) = true := by kernel_rfl
theorem c28 : (Try.prog.make == some Rows.benchNoiseRow.make) = true := by kernel_rfl
theorem c29 : (Rows.benchNoiseRow.kinds == (if Rows.benchNoiseRow.domain.isEmpty then [] else Try.f4.params.toList.map fun t => match Try.prog.underlying t with | some (.int k) => some k | _ => none)) = true := by kernel_rfl
theorem c30 : (Rows.benchNoiseRow.pinned == Rows.benchNoiseRow.pinnedBy) = true := by kernel_rfl
theorem c31 : (Rows.benchNoiseRow.veiled == (Try.f4.params.toList ++ Rows.benchNoiseSpec.plain.varTypes Try.prog ++ Try.f4.resultTypes.toList).any (Try.prog.veiledRec ·)) = true := by kernel_rfl
theorem c32 : Rows.benchNoiseRow.veiledFits Try.prog Try.f4.params.toList (Try.f4.params.toList ++ Rows.benchNoiseSpec.plain.varTypes Try.prog ++ Try.f4.resultTypes.toList) = true := by kernel_rfl
set_option maxRecDepth 100000 in
theorem closed : joinedFacts Try.prog 4 Try.f4 Rows.benchNoiseSpec Rows.benchNoiseRow = true :=
  joined_mk c1 laidOut PmapsRowed c4 c5 c6 PpStops c8 PpKnobs c10 c11 c12 c13 c14 c15 c16 c17 c18 c19 c20 c21 c22 c23 c24 PpHeard PpEnter c27 c28 c29 c30 c31 c32
theorem named : Try.prog.funcNamed Rows.benchNoiseRow.func = some 4 := by kernel_rfl
theorem inst : Try.f4.isInstance Try.prog Rows.benchNoiseRow.origin Rows.benchNoiseRow.targs := of_decide_eq_true (by kernel_rfl)
theorem wrapped : Try.f4.isWrapper Try.prog Rows.benchNoiseRow.wrapper Rows.benchNoiseRow.mainSum := by unfold Func.isWrapper; first | (rw [if_pos (by decide +kernel)]; kernel_rfl) | (rw [if_neg (by decide +kernel)]; exact ⟨rfl, rfl⟩)
theorem over : Rows.benchNoiseRow.holds Try.pinned (OpenSpec.ofChange Rows.benchNoiseSpec) :=
  OpenClaim.holds_of_wide 4 Try.f4 rfl rfl rfl rfl rfl rfl rfl ⟨rfl, rfl, rfl, rfl, rfl⟩ rfl rfl rfl rfl rfl named Try.func4 closed inst wrapped
    (fun os started H enc _ => lifted os started H enc)

/-- the statement -/
theorem proved : Rows.BenchNoiseSaid := over
#print axioms proved
end Go.Proofs.Ytlpjnhoafaamkaa.benchNoiseDone
