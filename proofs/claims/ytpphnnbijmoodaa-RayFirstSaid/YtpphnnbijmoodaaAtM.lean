/-
  CheckCrossing of package ray at a right place: another one.
-/
import Derived.Test.YtpphnnbijmoodaaAt
set_option linter.unusedVariables false
set_option linter.unusedSimpArgs false
namespace Go.Proofs.Ytpphnnbijmoodaa
open Go.RowKit

set_option maxRecDepth 100000 in
set_option maxHeartbeats 4000000 in
theorem checkCrossing_more (x : Cr) (t : Int) (w : World) (h : okC x) (ht : inC x t) (hm : ¬ t = max x.X1 x.X2) :
    Calls Try.prog 28 #[.agg #[.int .i64 x.X1, .int .i64 x.H1, .int .i64 x.V1, .int .i64 x.X2, .int .i64 x.H2, .int .i64 x.V2], .int .i64 t] w fun e w' => e = .returned (.int .i64 (kX x t)) ∧ Below w.heap.size w w' := by
  have K : ∀ W, _ := fun W => crossPlace_any x t W
  rw [pE_zero.2 ⟨h, ht⟩] at K
  have H := Lib.hid K
  have H2 := Lib.hid (fun W => slope_any x t W h ht)
  have HK := Lib.hid (kX_more hm)
  generalize kX x t = g at *
  have H3 := Lib.hid (fun W => slope_any x (t + 1) W h (by unfold inC at *; omega))
  have g1 := h.1
  have g2 := h.2.1
  unfold inC at ht
  clear K h
  generalize slp x t = s1 at *
  generalize slp x (t + 1) = s2 at *
  have t1 : (t == max x.X1 x.X2) = false := by simp [hm]
  have wr1 : IntKind.i64.wrap (t + 1) = t + 1 := IntWalk.i64_in _ (by omega)
  clear hm
  go_enter Try.func28, Try.ntmps28
  go_wp2_with fail; (refine (H.out _).mono ?_; rintro e w1 ⟨rfl, hw1⟩; obtain ⟨hcw1, hfw1, hlw1, hmw1, hnw1⟩ := bcell3 hw1; have hzw1 := hw1.size; (try simp only [World.size_alloc, World.size_setCell, World.size_drew, size_drewN] at hzw1))
  go_wp2_with fail; (refine (crossingOf_any x _).mono ?_; rintro e w2 ⟨rfl, hw2⟩; obtain ⟨hcw2, hfw2, hlw2, hmw2, hnw2⟩ := bcell3 hw2; have hzw2 := hw2.size; (try simp only [World.size_alloc, World.size_setCell, World.size_drew, size_drewN] at hzw2))
  go_wp2_with fail
  go_region_held3 (fun w' => w'.cell? ⟨w2.heap.size, 0, none⟩ = some (.int .i64 (x.X1)) ∧ w'.cell? ⟨w2.heap.size, 1, none⟩ = some (.int .i64 (x.H1)) ∧ w'.cell? ⟨w2.heap.size, 2, none⟩ = some (.int .i64 (x.V1)) ∧ w'.cell? ⟨w2.heap.size, 3, none⟩ = some (.int .i64 (x.X2)) ∧ w'.cell? ⟨w2.heap.size, 4, none⟩ = some (.int .i64 (x.H2)) ∧ w'.cell? ⟨w2.heap.size, 5, none⟩ = some (.int .i64 (x.V2)) ∧ w'.cell? ⟨w2.heap.size, 6, none⟩ = some (.int .i64 (min x.X1 x.X2)) ∧ w'.cell? ⟨w2.heap.size, 7, none⟩ = some (.int .i64 (max x.X1 x.X2))) (first | (go_keep; done) | (simp [*, go_sem]; done))
    (first | (go_at_call 86; ((with_reducible refine (H2.out _).mono ?_); rintro e w3 ⟨rfl, hw3⟩; obtain ⟨hcw3, hfw3, hlw3, hmw3, hnw3⟩ := bcell3 hw3; have hzw3 := hw3.size; (try simp only [World.size_alloc, World.size_drew] at hzw3); have cb3_0 : w3.cell? ⟨w2.heap.size, 0, none⟩ = some (.int .i64 (x.X1)) := (hcw3 (w2.heap.size) (0) (by first | omega | (simp only [World.size_alloc, World.size_drew, World.size_setCell, size_drewN]; omega))).trans (by simp [go_sem, *]); have cb3_1 : w3.cell? ⟨w2.heap.size, 1, none⟩ = some (.int .i64 (x.H1)) := (hcw3 (w2.heap.size) (1) (by first | omega | (simp only [World.size_alloc, World.size_drew, World.size_setCell, size_drewN]; omega))).trans (by simp [go_sem, *]); have cb3_2 : w3.cell? ⟨w2.heap.size, 2, none⟩ = some (.int .i64 (x.V1)) := (hcw3 (w2.heap.size) (2) (by first | omega | (simp only [World.size_alloc, World.size_drew, World.size_setCell, size_drewN]; omega))).trans (by simp [go_sem, *]); have cb3_3 : w3.cell? ⟨w2.heap.size, 3, none⟩ = some (.int .i64 (x.X2)) := (hcw3 (w2.heap.size) (3) (by first | omega | (simp only [World.size_alloc, World.size_drew, World.size_setCell, size_drewN]; omega))).trans (by simp [go_sem, *]); have cb3_4 : w3.cell? ⟨w2.heap.size, 4, none⟩ = some (.int .i64 (x.H2)) := (hcw3 (w2.heap.size) (4) (by first | omega | (simp only [World.size_alloc, World.size_drew, World.size_setCell, size_drewN]; omega))).trans (by simp [go_sem, *]); have cb3_5 : w3.cell? ⟨w2.heap.size, 5, none⟩ = some (.int .i64 (x.V2)) := (hcw3 (w2.heap.size) (5) (by first | omega | (simp only [World.size_alloc, World.size_drew, World.size_setCell, size_drewN]; omega))).trans (by simp [go_sem, *]); have cb3_6 : w3.cell? ⟨w2.heap.size, 6, none⟩ = some (.int .i64 (min x.X1 x.X2)) := (hcw3 (w2.heap.size) (6) (by first | omega | (simp only [World.size_alloc, World.size_drew, World.size_setCell, size_drewN]; omega))).trans (by simp [go_sem, *]); have cb3_7 : w3.cell? ⟨w2.heap.size, 7, none⟩ = some (.int .i64 (max x.X1 x.X2)) := (hcw3 (w2.heap.size) (7) (by first | omega | (simp only [World.size_alloc, World.size_drew, World.size_setCell, size_drewN]; omega))).trans (by simp [go_sem, *]); have ob3 : w2.heap.size < w3.heap.size := (by omega))) | (go_at_call 86; ((with_reducible refine (H3.out _).mono ?_); rintro e w4 ⟨rfl, hw4⟩; obtain ⟨hcw4, hfw4, hlw4, hmw4, hnw4⟩ := bcell3 hw4; have hzw4 := hw4.size; (try simp only [World.size_alloc, World.size_drew] at hzw4); have cb4_0 : w4.cell? ⟨w2.heap.size, 0, none⟩ = some (.int .i64 (x.X1)) := (hcw4 (w2.heap.size) (0) (by first | omega | (simp only [World.size_alloc, World.size_drew, World.size_setCell, size_drewN]; omega))).trans (by simp [go_sem, *]); have cb4_1 : w4.cell? ⟨w2.heap.size, 1, none⟩ = some (.int .i64 (x.H1)) := (hcw4 (w2.heap.size) (1) (by first | omega | (simp only [World.size_alloc, World.size_drew, World.size_setCell, size_drewN]; omega))).trans (by simp [go_sem, *]); have cb4_2 : w4.cell? ⟨w2.heap.size, 2, none⟩ = some (.int .i64 (x.V1)) := (hcw4 (w2.heap.size) (2) (by first | omega | (simp only [World.size_alloc, World.size_drew, World.size_setCell, size_drewN]; omega))).trans (by simp [go_sem, *]); have cb4_3 : w4.cell? ⟨w2.heap.size, 3, none⟩ = some (.int .i64 (x.X2)) := (hcw4 (w2.heap.size) (3) (by first | omega | (simp only [World.size_alloc, World.size_drew, World.size_setCell, size_drewN]; omega))).trans (by simp [go_sem, *]); have cb4_4 : w4.cell? ⟨w2.heap.size, 4, none⟩ = some (.int .i64 (x.H2)) := (hcw4 (w2.heap.size) (4) (by first | omega | (simp only [World.size_alloc, World.size_drew, World.size_setCell, size_drewN]; omega))).trans (by simp [go_sem, *]); have cb4_5 : w4.cell? ⟨w2.heap.size, 5, none⟩ = some (.int .i64 (x.V2)) := (hcw4 (w2.heap.size) (5) (by first | omega | (simp only [World.size_alloc, World.size_drew, World.size_setCell, size_drewN]; omega))).trans (by simp [go_sem, *]); have cb4_6 : w4.cell? ⟨w2.heap.size, 6, none⟩ = some (.int .i64 (min x.X1 x.X2)) := (hcw4 (w2.heap.size) (6) (by first | omega | (simp only [World.size_alloc, World.size_drew, World.size_setCell, size_drewN]; omega))).trans (by simp [go_sem, *]); have cb4_7 : w4.cell? ⟨w2.heap.size, 7, none⟩ = some (.int .i64 (max x.X1 x.X2)) := (hcw4 (w2.heap.size) (7) (by first | omega | (simp only [World.size_alloc, World.size_drew, World.size_setCell, size_drewN]; omega))).trans (by simp [go_sem, *]); have ob4 : w2.heap.size < w4.heap.size := (by omega))) | (go_at_call 88; refine (unless_any _ _ _).mono ?_; rintro e w' ⟨rfl, rfl⟩) | (go_at_call 77; refine (first2 (unl (decide (s1 ≤ 0)) 18) (unl (decide (0 < s2)) 18) _ _ (cell_fresh _ _ _ _ _ _ (by simp) rfl) (cell_fresh _ _ _ _ _ _ (by simp) rfl)).mono ?_; rw [← HK.out]; rintro e w' ⟨rfl, rfl⟩))
  all_goals
    go_wp2
    go_ret
    exact ⟨rfl, by (repeat' (first | (with_reducible exact Below.refl _ _) | (with_reducible assumption) | (with_reducible refine Below.alloc ?_ ?_ _) | (with_reducible refine Below.drew ?_) | (with_reducible refine below_drewN ?_ _) | (with_reducible refine Below.setCell ?_ ?_ _) | (with_reducible refine below_step (by with_reducible assumption) ?_ ?_) | (with_reducible exact Below.size (by with_reducible assumption)) | go_size))⟩
end Go.Proofs.Ytpphnnbijmoodaa
