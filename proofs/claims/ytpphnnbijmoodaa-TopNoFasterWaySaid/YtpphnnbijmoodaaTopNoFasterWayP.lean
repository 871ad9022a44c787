/-
  PROVED: TopNoFasterWay, for every way, place of the surface and places of the walls: no way is faster than the least time
  CONDITIONS: none beyond the given row's own.
-/
import Derived.Test.YtpphnnbijmoodaaFrameE
import Derived.Test.YtpphnnbijmoodaaNoFasterT
set_option linter.unusedVariables false
set_option linter.unusedSimpArgs false
namespace Go.Proofs.Ytpphnnbijmoodaa.topNoFasterWayDone
open Go.ChangeShapes Go.WideShapes Go.ChangeAt Go.RowKit Go.Joins

set_option maxRecDepth 100000 in
theorem lifted (os : Os) (started : os.Started) (H : Type) (enc : TypeId × Value → H) :
    ReturnsInHanded {} Try.checked os 17 .any (Rows.topNoFasterWaySpec.pre6 enc Try.prog Try.f17 Rows.topNoFasterWayRow.domain false) (Rows.topNoFasterWaySpec.post enc Try.prog Try.f17 false true false false) := by
  refine returnsInHanded_of_change (C := Try.checked) own started (by kernel_rfl) Try.func17
    (ChangeSpec.witness6 (enc := enc) (C := Try.checked) false ⟨#[], #[.agg #[.int .i64 0, .int .i64 0, .int .i64 0, .int .i64 0, .int .i64 0, .int .i64 0, .int .i64 0, .int .i64 0], .int .i64 0, .agg #[.int .i64 0, .int .i64 0, .int .i64 0, .int .i64 0]], []⟩ 8 (by kernel_rfl) (by kernel_rfl) (by kernel_rfl) (by kernel_rfl)) ?_
  intro W base args ds gs before hval0 hW hcnd _
  have hval : ∀ (j : Nat) t v, Try.f17.params[j]? = some t → args[j]? = some v → Value.okWide Try.prog W .any base t v := hval0
  have hW' := hW
  obtain ⟨p, q, hA0, hV, rfl, hfz, hnd⟩ := hW
  have hA : DataW.TrodAll enc Try.prog W 0 (fun _ => true) true Try.f17.params.toList args.toList ds p := hA0
  rw [Try.params17] at hA hval
  obtain ⟨v0, vs0, d0, ds0, p0, q0, hargs, rfl, rfl, h0, r0⟩ := trodAll_cons hA
  obtain ⟨v1, vs1, d1, ds1, p1, q1, rfl, rfl, rfl, h1, r1⟩ := trodAll_cons r0
  obtain ⟨v2, vs2, d2, ds2, p2, q2, rfl, rfl, rfl, h2, r2⟩ := trodAll_cons r1
  obtain ⟨rfl, rfl, rfl⟩ := trodAll_nil r2
  obtain rfl : args = #[v0, v1, v2] := by cases args; simp_all
  obtain ⟨rfl, rfl⟩ := trodVars_none hV
  have k0 := h0
  have lt0 : ∀ x ∈ p0, x.block < W.heap.size := by obtain ⟨m, hm⟩ := k0; exact DataW.trod_lt m _ _ _ hm
  obtain ⟨x0_0, x0_1, x0_2, x0_3, x0_4, x0_5, x0_6, x0_7, rfl, R0_0, R0_1, R0_2, R0_3, R0_4, R0_5, R0_6, R0_7⟩ : ∃ x0_0 x0_1 x0_2 x0_3 x0_4 x0_5 x0_6 x0_7, v0 = .agg #[.int .i64 x0_0, .int .i64 x0_1, .int .i64 x0_2, .int .i64 x0_3, .int .i64 x0_4, .int .i64 x0_5, .int .i64 x0_6, .int .i64 x0_7] ∧ (-9223372036854775808 ≤ x0_0 ∧ x0_0 ≤ 9223372036854775807) ∧ (-9223372036854775808 ≤ x0_1 ∧ x0_1 ≤ 9223372036854775807) ∧ (-9223372036854775808 ≤ x0_2 ∧ x0_2 ≤ 9223372036854775807) ∧ (-9223372036854775808 ≤ x0_3 ∧ x0_3 ≤ 9223372036854775807) ∧ (-9223372036854775808 ≤ x0_4 ∧ x0_4 ≤ 9223372036854775807) ∧ (-9223372036854775808 ≤ x0_5 ∧ x0_5 ≤ 9223372036854775807) ∧ (-9223372036854775808 ≤ x0_6 ∧ x0_6 ≤ 9223372036854775807) ∧ (-9223372036854775808 ≤ x0_7 ∧ x0_7 ≤ 9223372036854775807) := by
    obtain ⟨l, hl, hn, hw⟩ := open_flat (.inl ⟨_, Try.underlying61⟩) iWay (hval 0 61 v0 rfl rfl) h0
    obtain ⟨x0_0, x0_1, x0_2, x0_3, x0_4, x0_5, x0_6, x0_7, rfl⟩ := list8 (hn.trans cWay)
    exact ⟨x0_0, x0_1, x0_2, x0_3, x0_4, x0_5, x0_6, x0_7, hl, wf_in (hw _ (by simp)), wf_in (hw _ (by simp)), wf_in (hw _ (by simp)), wf_in (hw _ (by simp)), wf_in (hw _ (by simp)), wf_in (hw _ (by simp)), wf_in (hw _ (by simp)), wf_in (hw _ (by simp))⟩
  obtain ⟨x1, rfl, rfl, rfl, wx1⟩ := open_int Try.underlying3 (hval 1 3 v1 rfl rfl) h1
  have k2 := h2
  have lt2 : ∀ x ∈ p2, x.block < W.heap.size := by obtain ⟨m, hm⟩ := k2; exact DataW.trod_lt m _ _ _ hm
  obtain ⟨x2_0, x2_1, x2_2, x2_3, rfl, R2_0, R2_1, R2_2, R2_3⟩ : ∃ x2_0 x2_1 x2_2 x2_3, v2 = .agg #[.int .i64 x2_0, .int .i64 x2_1, .int .i64 x2_2, .int .i64 x2_3] ∧ (-9223372036854775808 ≤ x2_0 ∧ x2_0 ≤ 9223372036854775807) ∧ (-9223372036854775808 ≤ x2_1 ∧ x2_1 ≤ 9223372036854775807) ∧ (-9223372036854775808 ≤ x2_2 ∧ x2_2 ≤ 9223372036854775807) ∧ (-9223372036854775808 ≤ x2_3 ∧ x2_3 ≤ 9223372036854775807) := by
    obtain ⟨l, hl, hn, hw⟩ := open_flat (.inr ⟨_, _, Try.underlying114⟩) iArr4 (hval 2 114 v2 rfl rfl) h2
    obtain ⟨x2_0, x2_1, x2_2, x2_3, rfl⟩ := list4 (hn.trans cArr4)
    exact ⟨x2_0, x2_1, x2_2, x2_3, hl, wf_in (hw _ (by simp)), wf_in (hw _ (by simp)), wf_in (hw _ (by simp)), wf_in (hw _ (by simp))⟩
  clear hA0 hval0
  refine (topNoFasterWay_any ⟨x0_0, x0_1, x0_2, x0_3⟩ x0_4 x0_5 x0_6 x0_7 x1 x2_0 x2_1 x2_2 x2_3 W).mono fun e W' ⟨he, bel⟩ => ?_
  subst he
  exact ⟨_, rfl, _, _, _, [], _, [], hW', trodAll_mk1 (shut_bool Try.underlying4 _), (trodAll_cons_mk (Below.trod laidOut (by kernel_rfl) (of_decide_eq_true (by kernel_rfl)) k0 bel lt0) (trodAll_cons_mk (shut_int Try.underlying3 wx1) (trodAll_cons_mk (Below.trod laidOut (by kernel_rfl) (of_decide_eq_true (by kernel_rfl)) k2 bel lt2) trodAll_mk0))), rfl, bel.frame _, fun h => by cases h⟩

theorem over : Rows.topNoFasterWayRow.holds Try.pinned (OpenSpec.ofChange Rows.topNoFasterWaySpec) :=
  OpenClaim.holds_of_wide 17 Try.f17 rfl rfl rfl rfl rfl rfl rfl ⟨rfl, rfl, rfl, rfl, rfl⟩ rfl rfl rfl rfl rfl (by kernel_rfl) Try.func17 (by kernel_rfl)
    (of_decide_eq_true (by kernel_rfl)) (by unfold Func.isWrapper; first | (rw [if_pos (by decide +kernel)]; kernel_rfl) | (rw [if_neg (by decide +kernel)]; exact ⟨rfl, rfl⟩))
    (fun os started H enc _ => lifted os started H enc)

/-- the statement -/
theorem proved : Rows.TopNoFasterWaySaid := over
#print axioms proved
end Go.Proofs.Ytpphnnbijmoodaa.topNoFasterWayDone
