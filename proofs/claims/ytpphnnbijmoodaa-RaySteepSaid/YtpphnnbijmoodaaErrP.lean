/-
  THE ERROR of a crossing and a place.
-/
import Derived.Test.YtpphnnbijmoodaaErr
set_option linter.unusedVariables false
set_option linter.unusedSimpArgs false
namespace Go.Proofs.Ytpphnnbijmoodaa
open Go.RowKit

/-- the error of a crossing and a place -/
def pE (x : Cr) (t : Int) : Int := frst [cE x, unl (inB t (min x.X1 x.X2) (max x.X1 x.X2)) 2]
set_option maxRecDepth 100000 in
set_option maxHeartbeats 2000000 in
theorem crossPlace_any (x : Cr) (t : Int) (w : World) :
    Calls Try.prog 84 #[.agg #[.int .i64 x.X1, .int .i64 x.H1, .int .i64 x.V1, .int .i64 x.X2, .int .i64 x.H2, .int .i64 x.V2], .int .i64 t] w fun e w' => e = .returned (.int .i64 (pE x t)) ∧ Below w.heap.size w w' := by
  have HE := Lib.hid (show pE x t = frst [cE x, unl (inB t (min x.X1 x.X2) (max x.X1 x.X2)) 2] from rfl)
  go_enter Try.func84, Try.ntmps84
  go_wp2
  go_region_held3 (fun w' => w'.cell? ⟨w.heap.size, 0, none⟩ = some (.int .i64 x.X1) ∧ w'.cell? ⟨w.heap.size, 1, none⟩ = some (.int .i64 x.H1) ∧ w'.cell? ⟨w.heap.size, 2, none⟩ = some (.int .i64 x.V1) ∧ w'.cell? ⟨w.heap.size, 3, none⟩ = some (.int .i64 x.X2) ∧ w'.cell? ⟨w.heap.size, 4, none⟩ = some (.int .i64 x.H2) ∧ w'.cell? ⟨w.heap.size, 5, none⟩ = some (.int .i64 x.V2)) (first | (go_keep; done) | (simp [*, go_sem]; done))
    (first
      | (go_at_call 30; refine (checkCross_any x _).mono ?_; rintro e w1 ⟨rfl, hw1⟩; obtain ⟨hcw1, hfw1, hlw1, hmw1, hnw1⟩ := bcell3 hw1; have hz1 := hw1.size; (try simp only [World.size_drew, World.size_alloc] at hz1); have ho1 : w.heap.size < w1.heap.size := (by omega); have hS1 := keep6 (x := x) (b := w.heap.size) (by assumption) (by first | omega | (simp only [World.size_drew, World.size_alloc]; omega)) hw1)
      | (go_at_call 90; refine (rangeError_any _ _ _ _).mono ?_; rintro e w' ⟨rfl, rfl⟩)
      | (go_at_call 77; refine (first2 (cE x) (unl (inB t (min x.X1 x.X2) (max x.X1 x.X2)) 2) _ _ (cell_fresh _ _ _ _ _ _ rfl rfl) (cell_fresh _ _ _ _ _ _ rfl rfl)).mono ?_; rintro e w' ⟨rfl, rfl⟩))
  all_goals
    go_wp2
    go_ret
    exact ⟨ri HE.out.symm, by (repeat' (first | (with_reducible exact Below.refl _ _) | (with_reducible assumption) | (with_reducible refine Below.alloc ?_ ?_ _) | (with_reducible refine Below.drew ?_) | (with_reducible refine below_drewN ?_ _) | (with_reducible refine Below.setCell ?_ ?_ _) | (with_reducible refine below_step (by with_reducible assumption) ?_ ?_) | (with_reducible exact Below.size (by with_reducible assumption)) | go_size))⟩
end Go.Proofs.Ytpphnnbijmoodaa
