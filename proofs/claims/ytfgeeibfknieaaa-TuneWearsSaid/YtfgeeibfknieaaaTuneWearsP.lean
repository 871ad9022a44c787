/-
  PROVED: TuneWears returns true for every three ranges, and each argument reads afterwards as it read before.
  CONDITIONS: none beyond the given row's own.
-/
import Derived.Test.YtfgeeibfknieaaaFr
import Derived.Test.YtfgeeibfknieaaaUWears
set_option linter.unusedVariables false
set_option linter.unusedSimpArgs false
namespace Go.Proofs.Ytfgeeibfknieaaa.tuneWearsDone
open Go.ChangeShapes Go.WideShapes Go.ChangeAt Go.RowKit Go.Joins

set_option maxRecDepth 100000 in
theorem lifted (os : Os) (started : os.Started) (H : Type) (enc : TypeId × Value → H) :
    ReturnsInHanded {} Try.checked os 3 .any (Rows.tuneWearsSpec.pre6 enc Try.prog Try.f3 Rows.tuneWearsRow.domain false) (Rows.tuneWearsSpec.post enc Try.prog Try.f3 false true false false) := by
  refine returnsInHanded_of_change (C := Try.checked) own started (by kernel_rfl) Try.func3
    (ChangeSpec.witness6 (enc := enc) (C := Try.checked) false ⟨#[], #[.agg #[.int .i64 0, .int .i64 0], .agg #[.int .i64 0, .int .i64 0], .agg #[.int .i64 0, .int .i64 0]], []⟩ 8 (by kernel_rfl) (by kernel_rfl) (by kernel_rfl) (by kernel_rfl)) ?_
  intro W base args ds gs before hval0 hW hcnd _
  have hval : ∀ (j : Nat) t v, Try.f3.params[j]? = some t → args[j]? = some v → Value.okWide Try.prog W .any base t v := hval0
  have hW' := hW
  obtain ⟨p, q, hA0, hV, rfl, hfz, hnd⟩ := hW
  have hA : DataW.TrodAll enc Try.prog W 0 (fun _ => true) true Try.f3.params.toList args.toList ds p := hA0
  rw [Try.params3] at hA hval
  obtain ⟨v0, vs0, d0, ds0, p0, q0, hargs, rfl, rfl, h0, r0⟩ := trodAll_cons hA
  obtain ⟨v1, vs1, d1, ds1, p1, q1, rfl, rfl, rfl, h1, r1⟩ := trodAll_cons r0
  obtain ⟨v2, vs2, d2, ds2, p2, q2, rfl, rfl, rfl, h2, r2⟩ := trodAll_cons r1
  obtain ⟨rfl, rfl, rfl⟩ := trodAll_nil r2
  obtain rfl : args = #[v0, v1, v2] := by cases args; simp_all
  obtain ⟨rfl, rfl⟩ := trodVars_none hV
  have k0 := h0
  have lt0 : ∀ x ∈ p0, x.block < W.heap.size := by obtain ⟨m, hm⟩ := k0; exact DataW.trod_lt m _ _ _ hm
  obtain ⟨x0_0, x0_1, rfl⟩ : ∃ x0_0 x0_1, v0 = .agg #[.int .i64 x0_0, .int .i64 x0_1] := by
    obtain ⟨l, hl, hn⟩ := struct_ints Try.underlying23 (by kernel_rfl) (by kernel_rfl) Try.underlying3 (show Try.prog.cellsOf 23 = 2 from by kernel_rfl) (hval 0 23 v0 rfl rfl) h0
    obtain ⟨x0_0, x0_1, rfl⟩ := list2 hn
    exact ⟨x0_0, x0_1, hl⟩
  have k1 := h1
  have lt1 : ∀ x ∈ p1, x.block < W.heap.size := by obtain ⟨m, hm⟩ := k1; exact DataW.trod_lt m _ _ _ hm
  obtain ⟨x1_0, x1_1, rfl⟩ : ∃ x1_0 x1_1, v1 = .agg #[.int .i64 x1_0, .int .i64 x1_1] := by
    obtain ⟨l, hl, hn⟩ := struct_ints Try.underlying23 (by kernel_rfl) (by kernel_rfl) Try.underlying3 (show Try.prog.cellsOf 23 = 2 from by kernel_rfl) (hval 1 23 v1 rfl rfl) h1
    obtain ⟨x1_0, x1_1, rfl⟩ := list2 hn
    exact ⟨x1_0, x1_1, hl⟩
  have k2 := h2
  have lt2 : ∀ x ∈ p2, x.block < W.heap.size := by obtain ⟨m, hm⟩ := k2; exact DataW.trod_lt m _ _ _ hm
  obtain ⟨x2_0, x2_1, rfl⟩ : ∃ x2_0 x2_1, v2 = .agg #[.int .i64 x2_0, .int .i64 x2_1] := by
    obtain ⟨l, hl, hn⟩ := struct_ints Try.underlying23 (by kernel_rfl) (by kernel_rfl) Try.underlying3 (show Try.prog.cellsOf 23 = 2 from by kernel_rfl) (hval 2 23 v2 rfl rfl) h2
    obtain ⟨x2_0, x2_1, rfl⟩ := list2 hn
    exact ⟨x2_0, x2_1, hl⟩
  clear hA0 hval0
  refine (tuneWears_any x0_0 x0_1 x1_0 x1_1 x2_0 x2_1 W).mono fun e W' ⟨he, bel⟩ => ?_
  subst he
  exact ⟨_, rfl, _, _, _, [], _, [], hW', trodAll_mk1 (shut_bool Try.underlying4 _), (trodAll_cons_mk (Below.trod laidOut (by kernel_rfl) (of_decide_eq_true (by kernel_rfl)) k0 bel lt0) (trodAll_cons_mk (Below.trod laidOut (by kernel_rfl) (of_decide_eq_true (by kernel_rfl)) k1 bel lt1) (trodAll_cons_mk (Below.trod laidOut (by kernel_rfl) (of_decide_eq_true (by kernel_rfl)) k2 bel lt2) trodAll_mk0))), rfl, bel.frame _, fun h => by cases h⟩

theorem c1 : Rows.tuneWearsRow.wf (OpenSpec.ofChange Rows.tuneWearsSpec) = true := by kernel_rfl
theorem c4 : Try.f3.params.all (Try.prog.readableRec ·) = true := by kernel_rfl
theorem c5 : namedTie Try.prog Rows.tuneWearsRow.named Rows.tuneWearsSpec.vars = true := by kernel_rfl
theorem c6 : (Rows.tuneWearsRow.stops == []) = true := by kernel_rfl
theorem c8 : (Rows.tuneWearsRow.knobs == []) = true := by kernel_rfl
theorem c10 : (Rows.tuneWearsRow.inPlace == Try.prog.inPlace 3) = true := by kernel_rfl
theorem c11 : (Rows.tuneWearsRow.unfollowed == Try.prog.unfollowed 3) = true := by kernel_rfl
theorem c12 : (Rows.tuneWearsRow.recurses == Try.prog.recurses 3) = true := by kernel_rfl
theorem c13 : (Rows.tuneWearsRow.named == Try.prog.varsNamed 3) = true := by kernel_rfl
theorem c14 : (Rows.tuneWearsRow.maps == (Try.f3.params.toList ++ Rows.tuneWearsSpec.plain.varTypes Try.prog).any (Try.prog.mapsRec ·)) = true := by kernel_rfl
theorem c15 : (Rows.tuneWearsRow.ifaces == (Try.f3.params.toList ++ Rows.tuneWearsSpec.plain.varTypes Try.prog).any (Try.prog.ifacesRec ·)) = true := by kernel_rfl
theorem c16 : (Rows.tuneWearsRow.mapsOut == Try.prog.mapsAmong Try.f3.resultTypes.toList) = true := by kernel_rfl
theorem c17 : (Rows.tuneWearsRow.loops == (Try.f3.params.toList ++ Rows.tuneWearsSpec.plain.varTypes Try.prog).any (Try.prog.loopsFrom ·)) = true := by kernel_rfl
theorem c18 : (Rows.tuneWearsRow.wideKeys == (Try.f3.params.toList ++ Rows.tuneWearsSpec.plain.varTypes Try.prog ++ Try.f3.resultTypes.toList).any (Try.prog.wideKeysFrom ·)) = true := by kernel_rfl
theorem c19 : Rows.tuneWearsSpec.vars.all (Try.prog.varReadable ·) = true := by kernel_rfl
theorem c20 : Try.f3.resultTypes.all (fun t => Try.prog.readableRec t && decide (t < Try.prog.types.size)) = true := by kernel_rfl
theorem c21 : (Rows.tuneWearsRow.ifacesOut == Try.f3.resultTypes.toList.any (Try.prog.ifacesRec ·)) = true := by kernel_rfl
theorem c22 : (Rows.tuneWearsRow.loopsOut == Try.f3.resultTypes.toList.any (Try.prog.loopsFrom ·)) = true := by kernel_rfl
theorem c23 : (Rows.tuneWearsRow.plainKeys == Try.prog.plainKeys) = true := by kernel_rfl
theorem c24 : Rows.tuneWearsRow.shortTexts.isNone = true := by kernel_rfl
theorem c27 : (Rows.tuneWearsRow.lifted == Try.prog.liftsFinal) = true := by kernel_rfl
theorem c28 : (Try.prog.make == some Rows.tuneWearsRow.make) = true := by kernel_rfl
theorem c29 : (Rows.tuneWearsRow.kinds == (if Rows.tuneWearsRow.domain.isEmpty then [] else Try.f3.params.toList.map fun t => match Try.prog.underlying t with | some (.int k) => some k | _ => none)) = true := by kernel_rfl
theorem c30 : (Rows.tuneWearsRow.pinned == Rows.tuneWearsRow.pinnedBy) = true := by kernel_rfl
theorem c31 : (Rows.tuneWearsRow.veiled == (Try.f3.params.toList ++ Rows.tuneWearsSpec.plain.varTypes Try.prog ++ Try.f3.resultTypes.toList).any (Try.prog.veiledRec ·)) = true := by kernel_rfl
theorem c32 : Rows.tuneWearsRow.veiledFits Try.prog Try.f3.params.toList (Try.f3.params.toList ++ Rows.tuneWearsSpec.plain.varTypes Try.prog ++ Try.f3.resultTypes.toList) = true := by kernel_rfl
set_option maxRecDepth 100000 in
theorem closed : joinedFacts Try.prog 3 Try.f3 Rows.tuneWearsSpec Rows.tuneWearsRow = true :=
  joined_mk c1 laidOut PmapsRowed c4 c5 c6 PpStops c8 PpKnobs c10 c11 c12 c13 c14 c15 c16 c17 c18 c19 c20 c21 c22 c23 c24 PpHeard PpEnter c27 c28 c29 c30 c31 c32
theorem named : Try.prog.funcNamed Rows.tuneWearsRow.func = some 3 := by kernel_rfl
theorem inst : Try.f3.isInstance Try.prog Rows.tuneWearsRow.origin Rows.tuneWearsRow.targs := of_decide_eq_true (by kernel_rfl)
theorem wrapped : Try.f3.isWrapper Try.prog Rows.tuneWearsRow.wrapper Rows.tuneWearsRow.mainSum := by unfold Func.isWrapper; first | (rw [if_pos (by decide +kernel)]; kernel_rfl) | (rw [if_neg (by decide +kernel)]; exact ⟨rfl, rfl⟩)
theorem over : Rows.tuneWearsRow.holds Try.pinned (OpenSpec.ofChange Rows.tuneWearsSpec) :=
  OpenClaim.holds_of_wide 3 Try.f3 rfl rfl rfl rfl rfl rfl rfl ⟨rfl, rfl, rfl, rfl, rfl⟩ rfl rfl rfl rfl rfl named Try.func3 closed inst wrapped
    (fun os started H enc _ => lifted os started H enc)

/-- the statement -/
theorem proved : Rows.TuneWearsSaid := over
#print axioms proved
end Go.Proofs.Ytfgeeibfknieaaa.tuneWearsDone
