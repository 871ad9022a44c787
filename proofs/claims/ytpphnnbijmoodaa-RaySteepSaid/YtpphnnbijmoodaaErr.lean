/-
  THE ERRORS of crossings, as package ray and the reference tell them.
-/
import Derived.Test.YtpphnnbijmoodaaPlace
import Derived.StillTailTactics
import Derived.Deep.RegionHeld3
set_option linter.unusedVariables false
set_option linter.unusedSimpArgs false
namespace Go.Proofs.Ytpphnnbijmoodaa
open Go.RowKit

/-- the error of a crossing -/
def cE (x : Cr) : Int := frst [unl (inB x.X1 (-100000) 100000 && inB x.X2 (-100000) 100000) 2, unl (inB x.H1 1 100000 && inB x.H2 1 100000) 2, unl (inB x.V1 500 10000) 2, unl (inB x.V2 500 10000) 2]

theorem cE_six (x : Cr) : frst [unl (inB x.X1 (-100000) 100000) 2, unl (inB x.X2 (-100000) 100000) 2, unl (inB x.H1 1 100000) 2, unl (inB x.H2 1 100000) 2, unl (inB x.V1 500 10000) 2, unl (inB x.V2 500 10000) 2] = cE x := by
  unfold cE
  cases inB x.X1 (-100000) 100000 <;> cases inB x.X2 (-100000) 100000 <;> cases inB x.H1 1 100000 <;> cases inB x.H2 1 100000 <;> cases inB x.V1 500 10000 <;> cases inB x.V2 500 10000 <;> rfl

set_option maxRecDepth 100000 in
set_option maxHeartbeats 2000000 in
theorem checkCross_any (x : Cr) (w : World) :
    Calls Try.prog 30 #[.agg #[.int .i64 x.X1, .int .i64 x.H1, .int .i64 x.V1, .int .i64 x.X2, .int .i64 x.H2, .int .i64 x.V2]] w fun e w' => e = .returned (.int .i64 (cE x)) ∧ Below w.heap.size w w' := by
  have HE := Lib.hid (cE_six x)
  go_enter Try.func30, Try.ntmps30
  go_wp2
  obtain ⟨W, hW⟩ : ∃ W, W = w.alloc (.cells #[.int .i64 x.X1, .int .i64 x.H1, .int .i64 x.V1, .int .i64 x.X2, .int .i64 x.H2, .int .i64 x.V2] 37) := ⟨_, rfl⟩
  rw [← hW]
  have hB := hW ▸ (show Below w.heap.size w (w.alloc (.cells #[.int .i64 x.X1, .int .i64 x.H1, .int .i64 x.V1, .int .i64 x.X2, .int .i64 x.H2, .int .i64 x.V2] 37)) by (repeat' (first | (with_reducible exact Below.refl _ _) | (with_reducible assumption) | (with_reducible refine Below.alloc ?_ ?_ _) | (with_reducible refine Below.drew ?_) | (with_reducible refine below_drewN ?_ _) | (with_reducible refine Below.setCell ?_ ?_ _) | (with_reducible refine below_step (by with_reducible assumption) ?_ ?_) | (with_reducible exact Below.size (by with_reducible assumption)) | go_size)))
  have hS := hW ▸ Box6.new x w 37
  obtain ⟨⟨s0, s1, s2⟩, s3, s4, s5⟩ := hS
  clear hW
  refine wp_region_still_tail 18 (by kernel_rfl) (by kernel_rfl) ?_
  change wpStill _ _ W.drew _ _ _
  simp only [List.take_succ_cons, List.take_zero, List.drop_succ_cons, List.drop_zero]
  repeat (first | still_step | still_call (still_of (rangeError_any _ _ _ _)) | still_call (still_of (speedError_any _ _)))
  refine wpStill_nil ?_
  change wpList _ _ _ _ _ W.drew
  go_wp2_with fail
  apply Calls.mono
  focus ((apply first6 <;> exact cell_fresh _ _ _ _ _ _ rfl rfl); done)
  rw [HE.out]
  rintro e w1 ⟨rfl, rfl⟩
  go_wp2
  go_ret
  exact ⟨rfl, by (repeat' (first | (with_reducible exact Below.refl _ _) | (with_reducible assumption) | (with_reducible refine Below.alloc ?_ ?_ _) | (with_reducible refine Below.drew ?_) | (with_reducible refine below_drewN ?_ _) | (with_reducible refine Below.setCell ?_ ?_ _) | (with_reducible refine below_step (by with_reducible assumption) ?_ ?_) | (with_reducible exact Below.size (by with_reducible assumption)) | go_size))⟩

/-- a mode -/
structure Md where
  Wedge : Int
  Metal : Int
  Skips : Int
  Thick : Int
def mE (m : Md) : Int := frst [unl (inB m.Wedge 500 10000) 2, unl (inB m.Metal 500 10000) 2, unl (inB m.Skips 0 4) 2, unl (inB m.Thick 2 20000) 2]

set_option maxRecDepth 100000 in
set_option maxHeartbeats 2000000 in
theorem checkMode_any (m : Md) (w : World) :
    Calls Try.prog 43 #[.agg #[.int .i64 m.Wedge, .int .i64 m.Metal, .int .i64 m.Skips, .int .i64 m.Thick]] w fun e w' => e = .returned (.int .i64 (mE m)) ∧ Below w.heap.size w w' := by
  have HE := Lib.hid (show mE m = frst [unl (inB m.Wedge 500 10000) 2, unl (inB m.Metal 500 10000) 2, unl (inB m.Skips 0 4) 2, unl (inB m.Thick 2 20000) 2] from rfl)
  go_enter Try.func43, Try.ntmps43
  go_wp2
  obtain ⟨W, hW⟩ : ∃ W, W = w.alloc (.cells #[.int .i64 m.Wedge, .int .i64 m.Metal, .int .i64 m.Skips, .int .i64 m.Thick] 54) := ⟨_, rfl⟩
  rw [← hW]
  have hB := hW ▸ (show Below w.heap.size w (w.alloc (.cells #[.int .i64 m.Wedge, .int .i64 m.Metal, .int .i64 m.Skips, .int .i64 m.Thick] 54)) by (repeat' (first | (with_reducible exact Below.refl _ _) | (with_reducible assumption) | (with_reducible refine Below.alloc ?_ ?_ _) | (with_reducible refine Below.drew ?_) | (with_reducible refine below_drewN ?_ _) | (with_reducible refine Below.setCell ?_ ?_ _) | (with_reducible refine below_step (by with_reducible assumption) ?_ ?_) | (with_reducible exact Below.size (by with_reducible assumption)) | go_size)))
  have s0 : W.cell? ⟨w.heap.size, 0, none⟩ = some (.int .i64 m.Wedge) := by rw [hW]; exact cell_fresh _ _ _ _ _ _ rfl rfl
  have s1 : W.cell? ⟨w.heap.size, 1, none⟩ = some (.int .i64 m.Metal) := by rw [hW]; exact cell_fresh _ _ _ _ _ _ rfl rfl
  have s2 : W.cell? ⟨w.heap.size, 2, none⟩ = some (.int .i64 m.Skips) := by rw [hW]; exact cell_fresh _ _ _ _ _ _ rfl rfl
  have s3 : W.cell? ⟨w.heap.size, 3, none⟩ = some (.int .i64 m.Thick) := by rw [hW]; exact cell_fresh _ _ _ _ _ _ rfl rfl
  clear hW
  refine wp_region_still_tail 12 (by kernel_rfl) (by kernel_rfl) ?_
  change wpStill _ _ W.drew _ _ _
  simp only [List.take_succ_cons, List.take_zero, List.drop_succ_cons, List.drop_zero]
  repeat (first | still_step | still_call (still_of (thickError_any _ _)) | still_call (still_of (rangeError_any _ _ _ _)) | still_call (still_of (speedError_any _ _)))
  refine wpStill_nil ?_
  change wpList _ _ _ _ _ W.drew
  go_wp2_with fail
  apply Calls.mono
  focus ((apply first4 <;> exact cell_fresh _ _ _ _ _ _ rfl rfl); done)
  rintro e w1 ⟨rfl, rfl⟩
  go_wp2
  go_ret
  exact ⟨ri HE.out.symm, by (repeat' (first | (with_reducible exact Below.refl _ _) | (with_reducible assumption) | (with_reducible refine Below.alloc ?_ ?_ _) | (with_reducible refine Below.drew ?_) | (with_reducible refine below_drewN ?_ _) | (with_reducible refine Below.setCell ?_ ?_ _) | (with_reducible refine below_step (by with_reducible assumption) ?_ ?_) | (with_reducible exact Below.size (by with_reducible assumption)) | go_size))⟩

end Go.Proofs.Ytpphnnbijmoodaa
