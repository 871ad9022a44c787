/-
  PROVED: TraceMatrices returns true for every matrix that is told by samples and floats, whatever their bits, and every pair, and each argument reads afterwards as it read before.
  CONDITIONS: none beyond the given row's own.
-/
import Derived.Test.YthgnemkfaiejbaaTOpenM
import Derived.Test.YthgnemkfaiejbaaTraceMatT
set_option linter.unusedVariables false
set_option linter.unusedSimpArgs false
namespace Go.Proofs.Ythgnemkfaiejbaa.traceMatricesDone
open Go.ChangeShapes Go.WideShapes Go.ChangeAt Go.RowKit Go.Joins

set_option maxRecDepth 100000 in
theorem lifted (os : Os) (started : os.Started) (H : Type) (enc : TypeId × Value → H) :
    ReturnsInHanded {} Try.checked os 4 .any (Rows.traceMatricesSpec.pre6 enc Try.prog Try.f4 Rows.traceMatricesRow.domain false) (Rows.traceMatricesSpec.post enc Try.prog Try.f4 false true false false) := by
  refine returnsInHanded_of_change (C := Try.checked) own started (by kernel_rfl) Try.func4
    (ChangeSpec.witness6 (enc := enc) (C := Try.checked) false ⟨#[], #[.agg #[.int .i64 0, .slice none 0 0, .slice none 0 0, .int .i64 0], .agg #[.int .i64 0, .int .i64 0]], []⟩ 8 (by kernel_rfl) (by kernel_rfl) (by kernel_rfl) (by kernel_rfl)) ?_
  intro W base args ds gs before hval0 hW hcnd _
  have hval : ∀ (j : Nat) t v, Try.f4.params[j]? = some t → args[j]? = some v → Value.okWide Try.prog W .any base t v := hval0
  have hW' := hW
  obtain ⟨p, q, hA0, hV, rfl, hfz, hnd⟩ := hW
  have hA : DataW.TrodAll enc Try.prog W 0 (fun _ => true) true Try.f4.params.toList args.toList ds p := hA0
  rw [Try.params4] at hA hval
  obtain ⟨v0, vs0, d0, ds0, p0, q0, hargs, rfl, rfl, h0, r0⟩ := trodAll_cons hA
  obtain ⟨v1, vs1, d1, ds1, p1, q1, rfl, rfl, rfl, h1, r1⟩ := trodAll_cons r0
  obtain ⟨rfl, rfl, rfl⟩ := trodAll_nil r1
  obtain rfl : args = #[v0, v1] := by cases args; simp_all
  obtain ⟨rfl, rfl⟩ := trodVars_none hV
  have k0 := h0
  have lt0 : ∀ x ∈ p0, x.block < W.heap.size := by obtain ⟨m, hm⟩ := k0; exact DataW.trod_lt m _ _ _ hm
  obtain ⟨E0, vS0, vR0, M0, s0, n0, rr0, mm0, rfl, hE0, hM0, hS0, hR0⟩ := made_open (hval 0 35 v0 rfl rfl) h0
  have k1 := h1
  have lt1 : ∀ x ∈ p1, x.block < W.heap.size := by obtain ⟨m, hm⟩ := k1; exact DataW.trod_lt m _ _ _ hm
  obtain ⟨x1_0, x1_1, rfl⟩ : ∃ x1_0 x1_1, v1 = .agg #[.int .i64 x1_0, .int .i64 x1_1] := by
    obtain ⟨l, hl, hn⟩ := array_ints Try.underlying36 Try.underlying3 cellsInt (show Try.prog.cellsOf 36 = 2 from by kernel_rfl) (hval 1 36 v1 rfl rfl) h1
    obtain ⟨x1_0, x1_1, rfl⟩ := list2 hn
    exact ⟨x1_0, x1_1, hl⟩
  clear hA0 hval0
  refine (traceMatrices_any W E0 vS0 vR0 M0 s0 n0 rr0 mm0 (Lib.hid hS0) (Lib.hid hR0) x1_0 x1_1).mono fun e W' ⟨he, bel⟩ => ?_
  subst he
  exact ⟨_, rfl, _, _, _, [], _, [], hW', trodAll_mk1 (shut_bool Try.underlying4 _), (trodAll_cons_mk (Below.trod laidOut (by kernel_rfl) (of_decide_eq_true (by kernel_rfl)) k0 bel lt0) (trodAll_cons_mk (Below.trod laidOut (by kernel_rfl) (of_decide_eq_true (by kernel_rfl)) k1 bel lt1) trodAll_mk0)), rfl, bel.frame _, fun h => by cases h⟩

theorem c1 : Rows.traceMatricesRow.wf (OpenSpec.ofChange Rows.traceMatricesSpec) = true := by kernel_rfl
theorem c4 : Try.f4.params.all (Try.prog.readableRec ·) = true := by kernel_rfl
theorem c5 : namedTie Try.prog Rows.traceMatricesRow.named Rows.traceMatricesSpec.vars = true := by kernel_rfl
theorem c6 : (Rows.traceMatricesRow.stops == []) = true := by kernel_rfl
theorem c8 : (Rows.traceMatricesRow.knobs == []) = true := by kernel_rfl
theorem c10 : (Rows.traceMatricesRow.inPlace == Try.prog.inPlace 4) = true := by kernel_rfl
theorem c11 : (Rows.traceMatricesRow.unfollowed == Try.prog.unfollowed 4) = true := by kernel_rfl
theorem c12 : (Rows.traceMatricesRow.recurses == Try.prog.recurses 4) = true := by kernel_rfl
theorem c13 : (Rows.traceMatricesRow.named == Try.prog.varsNamed 4) = true := by kernel_rfl
theorem c14 : (Rows.traceMatricesRow.maps == (Try.f4.params.toList ++ Rows.traceMatricesSpec.plain.varTypes Try.prog).any (Try.prog.mapsRec ·)) = true := by kernel_rfl
theorem c15 : (Rows.traceMatricesRow.ifaces == (Try.f4.params.toList ++ Rows.traceMatricesSpec.plain.varTypes Try.prog).any (Try.prog.ifacesRec ·)) = true := by kernel_rfl
theorem c16 : (Rows.traceMatricesRow.mapsOut == Try.prog.mapsAmong Try.f4.resultTypes.toList) = true := by kernel_rfl
theorem c17 : (Rows.traceMatricesRow.loops == (Try.f4.params.toList ++ Rows.traceMatricesSpec.plain.varTypes Try.prog).any (Try.prog.loopsFrom ·)) = true := by kernel_rfl
theorem c18 : (Rows.traceMatricesRow.wideKeys == (Try.f4.params.toList ++ Rows.traceMatricesSpec.plain.varTypes Try.prog ++ Try.f4.resultTypes.toList).any (Try.prog.wideKeysFrom ·)) = true := by kernel_rfl
theorem c19 : Rows.traceMatricesSpec.vars.all (Try.prog.varReadable ·) = true := by kernel_rfl
theorem c20 : Try.f4.resultTypes.all (fun t => Try.prog.readableRec t && decide (t < Try.prog.types.size)) = true := by kernel_rfl
theorem c21 : (Rows.traceMatricesRow.ifacesOut == Try.f4.resultTypes.toList.any (Try.prog.ifacesRec ·)) = true := by kernel_rfl
theorem c22 : (Rows.traceMatricesRow.loopsOut == Try.f4.resultTypes.toList.any (Try.prog.loopsFrom ·)) = true := by kernel_rfl
theorem c23 : (Rows.traceMatricesRow.plainKeys == Try.prog.plainKeys) = true := by kernel_rfl
theorem c24 : Rows.traceMatricesRow.shortTexts.isNone = true := by kernel_rfl
theorem c27 : (Rows.traceMatricesRow.lifted == Try.prog.liftsFinal) = true := by kernel_rfl
theorem c28 : (Try.prog.make == some Rows.traceMatricesRow.make) = true := by kernel_rfl
theorem c29 : (Rows.traceMatricesRow.kinds == (if Rows.traceMatricesRow.domain.isEmpty then [] else Try.f4.params.toList.map fun t => match Try.prog.underlying t with | some (.int k) => some k | _ => none)) = true := by kernel_rfl
theorem c30 : (Rows.traceMatricesRow.pinned == Rows.traceMatricesRow.pinnedBy) = true := by kernel_rfl
theorem c31 : (Rows.traceMatricesRow.veiled == (Try.f4.params.toList ++ Rows.traceMatricesSpec.plain.varTypes Try.prog ++ Try.f4.resultTypes.toList).any (Try.prog.veiledRec ·)) = true := by kernel_rfl
theorem c32 : Rows.traceMatricesRow.veiledFits Try.prog Try.f4.params.toList (Try.f4.params.toList ++ Rows.traceMatricesSpec.plain.varTypes Try.prog ++ Try.f4.resultTypes.toList) = true := by kernel_rfl
set_option maxRecDepth 100000 in
theorem closed : joinedFacts Try.prog 4 Try.f4 Rows.traceMatricesSpec Rows.traceMatricesRow = true :=
  joined_mk c1 laidOut PmapsRowed c4 c5 c6 PpStops c8 PpKnobs c10 c11 c12 c13 c14 c15 c16 c17 c18 c19 c20 c21 c22 c23 c24 PpHeard PpEnter c27 c28 c29 c30 c31 c32
theorem named : Try.prog.funcNamed Rows.traceMatricesRow.func = some 4 := by kernel_rfl
theorem inst : Try.f4.isInstance Try.prog Rows.traceMatricesRow.origin Rows.traceMatricesRow.targs := of_decide_eq_true (by kernel_rfl)
theorem wrapped : Try.f4.isWrapper Try.prog Rows.traceMatricesRow.wrapper Rows.traceMatricesRow.mainSum := by unfold Func.isWrapper; first | (rw [if_pos (by decide +kernel)]; kernel_rfl) | (rw [if_neg (by decide +kernel)]; exact ⟨rfl, rfl⟩)
theorem over : Rows.traceMatricesRow.holds Try.pinned (OpenSpec.ofChange Rows.traceMatricesSpec) :=
  OpenClaim.holds_of_wide 4 Try.f4 rfl rfl rfl rfl rfl rfl rfl ⟨rfl, rfl, rfl, rfl, rfl⟩ rfl rfl rfl rfl rfl named Try.func4 closed inst wrapped
    (fun os started H enc _ => lifted os started H enc)

/-- the statement -/
theorem proved : Rows.TraceMatricesSaid := over
#print axioms proved
end Go.Proofs.Ythgnemkfaiejbaa.traceMatricesDone
