/-
  PROVED: RaySteep, for every direction and all limits: whether the tangent is within the limits, or the error
  CONDITIONS: none beyond the given row's own.
-/
import Derived.Test.YtpphnnbijmoodaaFrameB
import Derived.Test.YtpphnnbijmoodaaRaySteep
set_option linter.unusedVariables false
set_option linter.unusedSimpArgs false
namespace Go.Proofs.Ytpphnnbijmoodaa.raySteepDone
open Go.ChangeShapes Go.WideShapes Go.ChangeAt Go.RowKit Go.Joins

set_option maxRecDepth 100000 in
theorem lifted (os : Os) (started : os.Started) (H : Type) (enc : TypeId × Value → H) :
    ReturnsInHanded {} Try.checked os 16 .any (Rows.raySteepSpec.pre6 enc Try.prog Try.f16 Rows.raySteepRow.domain false) (Rows.raySteepSpec.post enc Try.prog Try.f16 false true false false) := by
  refine returnsInHanded_of_change (C := Try.checked) own started (by kernel_rfl) Try.func16
    (ChangeSpec.witness6 (enc := enc) (C := Try.checked) false ⟨#[], #[.agg #[.int .i64 0, .int .i64 0], .agg #[.int .i64 0, .int .i64 0], .agg #[.int .i64 0, .int .i64 0]], []⟩ 8 (by kernel_rfl) (by kernel_rfl) (by kernel_rfl) (by kernel_rfl)) ?_
  intro W base args ds gs before hval0 hW hcnd _
  have hval : ∀ (j : Nat) t v, Try.f16.params[j]? = some t → args[j]? = some v → Value.okWide Try.prog W .any base t v := hval0
  have hW' := hW
  obtain ⟨p, q, hA0, hV, rfl, hfz, hnd⟩ := hW
  have hA : DataW.TrodAll enc Try.prog W 0 (fun _ => true) true Try.f16.params.toList args.toList ds p := hA0
  rw [Try.params16] at hA hval
  obtain ⟨v0, vs0, d0, ds0, p0, q0, hargs, rfl, rfl, h0, r0⟩ := trodAll_cons hA
  obtain ⟨v1, vs1, d1, ds1, p1, q1, rfl, rfl, rfl, h1, r1⟩ := trodAll_cons r0
  obtain ⟨v2, vs2, d2, ds2, p2, q2, rfl, rfl, rfl, h2, r2⟩ := trodAll_cons r1
  obtain ⟨rfl, rfl, rfl⟩ := trodAll_nil r2
  obtain rfl : args = #[v0, v1, v2] := by cases args; simp_all
  obtain ⟨rfl, rfl⟩ := trodVars_none hV
  have k0 := h0
  have lt0 : ∀ x ∈ p0, x.block < W.heap.size := by obtain ⟨m, hm⟩ := k0; exact DataW.trod_lt m _ _ _ hm
  obtain ⟨x0_0, x0_1, rfl, R0_0, R0_1⟩ : ∃ x0_0 x0_1, v0 = .agg #[.int .i64 x0_0, .int .i64 x0_1] ∧ (-9223372036854775808 ≤ x0_0 ∧ x0_0 ≤ 9223372036854775807) ∧ (-9223372036854775808 ≤ x0_1 ∧ x0_1 ≤ 9223372036854775807) := by
    obtain ⟨l, hl, hn, hw⟩ := array_intsW Try.underlying96 Try.underlying3 cellsInt cellsArr2 (hval 0 96 v0 rfl rfl) h0
    obtain ⟨x0_0, x0_1, rfl⟩ := list2 hn
    exact ⟨x0_0, x0_1, hl, wf_in (hw _ (by simp)), wf_in (hw _ (by simp))⟩
  have k1 := h1
  have lt1 : ∀ x ∈ p1, x.block < W.heap.size := by obtain ⟨m, hm⟩ := k1; exact DataW.trod_lt m _ _ _ hm
  obtain ⟨x1_0, x1_1, rfl, R1_0, R1_1⟩ : ∃ x1_0 x1_1, v1 = .agg #[.int .i64 x1_0, .int .i64 x1_1] ∧ (-9223372036854775808 ≤ x1_0 ∧ x1_0 ≤ 9223372036854775807) ∧ (-9223372036854775808 ≤ x1_1 ∧ x1_1 ≤ 9223372036854775807) := by
    obtain ⟨l, hl, hn, hw⟩ := struct_intsW Try.underlying98 (by kernel_rfl) (by kernel_rfl) Try.underlying3 cellsFrac (hval 1 98 v1 rfl rfl) h1
    obtain ⟨x1_0, x1_1, rfl⟩ := list2 hn
    exact ⟨x1_0, x1_1, hl, wf_in (hw _ (by simp)), wf_in (hw _ (by simp))⟩
  have k2 := h2
  have lt2 : ∀ x ∈ p2, x.block < W.heap.size := by obtain ⟨m, hm⟩ := k2; exact DataW.trod_lt m _ _ _ hm
  obtain ⟨x2_0, x2_1, rfl, R2_0, R2_1⟩ : ∃ x2_0 x2_1, v2 = .agg #[.int .i64 x2_0, .int .i64 x2_1] ∧ (-9223372036854775808 ≤ x2_0 ∧ x2_0 ≤ 9223372036854775807) ∧ (-9223372036854775808 ≤ x2_1 ∧ x2_1 ≤ 9223372036854775807) := by
    obtain ⟨l, hl, hn, hw⟩ := struct_intsW Try.underlying98 (by kernel_rfl) (by kernel_rfl) Try.underlying3 cellsFrac (hval 2 98 v2 rfl rfl) h2
    obtain ⟨x2_0, x2_1, rfl⟩ := list2 hn
    exact ⟨x2_0, x2_1, hl, wf_in (hw _ (by simp)), wf_in (hw _ (by simp))⟩
  clear hA0 hval0
  refine (raySteep_any x0_0 x0_1 x1_0 x1_1 x2_0 x2_1 W ⟨R1_0, R1_1, R2_0, R2_1⟩).mono fun e W' ⟨he, bel⟩ => ?_
  subst he
  exact ⟨_, rfl, _, _, _, [], _, [], hW', trodAll_mk1 (shut_bool Try.underlying4 _), (trodAll_cons_mk (Below.trod laidOut (by kernel_rfl) (of_decide_eq_true (by kernel_rfl)) k0 bel lt0) (trodAll_cons_mk (Below.trod laidOut (by kernel_rfl) (of_decide_eq_true (by kernel_rfl)) k1 bel lt1) (trodAll_cons_mk (Below.trod laidOut (by kernel_rfl) (of_decide_eq_true (by kernel_rfl)) k2 bel lt2) trodAll_mk0))), rfl, bel.frame _, fun h => by cases h⟩

theorem over : Rows.raySteepRow.holds Try.pinned (OpenSpec.ofChange Rows.raySteepSpec) :=
  OpenClaim.holds_of_wide 16 Try.f16 rfl rfl rfl rfl rfl rfl rfl ⟨rfl, rfl, rfl, rfl, rfl⟩ rfl rfl rfl rfl rfl (by kernel_rfl) Try.func16 (by kernel_rfl)
    (of_decide_eq_true (by kernel_rfl)) (by unfold Func.isWrapper; first | (rw [if_pos (by decide +kernel)]; kernel_rfl) | (rw [if_neg (by decide +kernel)]; exact ⟨rfl, rfl⟩))
    (fun os started H enc _ => lifted os started H enc)

/-- the statement -/
theorem proved : Rows.RaySteepSaid := over
#print axioms proved
end Go.Proofs.Ytpphnnbijmoodaa.raySteepDone
