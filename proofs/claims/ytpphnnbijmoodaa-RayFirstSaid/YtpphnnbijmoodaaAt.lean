/-
  SlopeAt, TimeAt and CheckCrossing of package ray, with their errors.
-/
import Derived.Test.YtpphnnbijmoodaaCore
import Derived.Test.YtpphnnbijmoodaaAwake
set_option linter.unusedVariables false
set_option linter.unusedSimpArgs false
namespace Go.Proofs.Ytpphnnbijmoodaa
open Go.RowKit

theorem pE_zero {x : Cr} {t : Int} : pE x t = 0 ↔ okC x ∧ inC x t := by
  unfold pE inC
  rw [frst_zero]
  simp only [List.mem_cons, List.not_mem_nil, or_false, forall_eq_or_imp, forall_eq, cE_zero, unl_zero (show (2 : Int) ≠ 0 by decide), inB_iff]
theorem pE_in {x : Cr} {t : Int} (h : okC x) (ht : ¬ inC x t) : pE x t = 2 := by
  have h0 : ¬ pE x t = 0 := fun e => ht (pE_zero.1 e).2
  unfold pE at *
  rw [cE_zero.2 h] at *
  cases hc : inB t (min x.X1 x.X2) (max x.X1 x.X2)
  · rfl
  · rw [hc] at h0; exact absurd rfl h0

set_option maxRecDepth 100000 in
set_option maxHeartbeats 1000000 in
theorem slopeAt_err (x : Cr) (t : Int) (w : World) (h : ¬ pE x t = 0) :
    Calls Try.prog 26 #[.agg #[.int .i64 x.X1, .int .i64 x.H1, .int .i64 x.V1, .int .i64 x.X2, .int .i64 x.H2, .int .i64 x.V2], .int .i64 t] w fun e w' => e = .returned (.tuple #[.int .i64 0, .int .i64 (pE x t)]) ∧ Below w.heap.size w w' := by
  have H := Lib.hid (fun W => crossPlace_any x t W)
  generalize pE x t = g at *
  go_enter Try.func26, Try.ntmps26
  go_wp2_with fail; (refine (H.out _).mono ?_; rintro e w1 ⟨rfl, hw1⟩; obtain ⟨hcw1, hfw1, hlw1, hmw1, hnw1⟩ := bcell3 hw1; have hzw1 := hw1.size; (try simp only [World.size_alloc, World.size_setCell, World.size_drew, size_drewN] at hzw1))
  go_wp2
  go_ret2
  exact ⟨rfl, by (repeat' (first | (with_reducible exact Below.refl _ _) | (with_reducible assumption) | (with_reducible refine Below.alloc ?_ ?_ _) | (with_reducible refine Below.drew ?_) | (with_reducible refine below_drewN ?_ _) | (with_reducible refine Below.setCell ?_ ?_ _) | (with_reducible refine below_step (by with_reducible assumption) ?_ ?_) | (with_reducible exact Below.size (by with_reducible assumption)) | go_size))⟩
set_option maxRecDepth 100000 in
set_option maxHeartbeats 1000000 in
theorem slopeAt_ok (x : Cr) (t : Int) (w : World) (h : okC x) (ht : inC x t) :
    Calls Try.prog 26 #[.agg #[.int .i64 x.X1, .int .i64 x.H1, .int .i64 x.V1, .int .i64 x.X2, .int .i64 x.H2, .int .i64 x.V2], .int .i64 t] w fun e w' => e = .returned (.tuple #[.int .i64 (slp x t), .int .i64 0]) ∧ Below w.heap.size w w' := by
  have K : ∀ W, _ := fun W => crossPlace_any x t W
  rw [pE_zero.2 ⟨h, ht⟩] at K
  have H := Lib.hid K
  have H2 := Lib.hid (fun W => slope_any x t W h ht)
  clear K h ht
  go_enter Try.func26, Try.ntmps26
  go_wp2_with fail; (refine (H.out _).mono ?_; rintro e w1 ⟨rfl, hw1⟩; obtain ⟨hcw1, hfw1, hlw1, hmw1, hnw1⟩ := bcell3 hw1; have hzw1 := hw1.size; (try simp only [World.size_alloc, World.size_setCell, World.size_drew, size_drewN] at hzw1))
  go_wp2_with fail; (refine (crossingOf_any x _).mono ?_; rintro e w2 ⟨rfl, hw2⟩; obtain ⟨hcw2, hfw2, hlw2, hmw2, hnw2⟩ := bcell3 hw2; have hzw2 := hw2.size; (try simp only [World.size_alloc, World.size_setCell, World.size_drew, size_drewN] at hzw2))
  go_wp2_with fail; (refine (H2.out _).mono ?_; rintro e w3 ⟨rfl, hw3⟩; obtain ⟨hcw3, hfw3, hlw3, hmw3, hnw3⟩ := bcell3 hw3; have hzw3 := hw3.size; (try simp only [World.size_alloc, World.size_setCell, World.size_drew, size_drewN] at hzw3))
  go_wp2
  go_ret2
  exact ⟨rfl, by (repeat' (first | (with_reducible exact Below.refl _ _) | (with_reducible assumption) | (with_reducible refine Below.alloc ?_ ?_ _) | (with_reducible refine Below.drew ?_) | (with_reducible refine below_drewN ?_ _) | (with_reducible refine Below.setCell ?_ ?_ _) | (with_reducible refine below_step (by with_reducible assumption) ?_ ?_) | (with_reducible exact Below.size (by with_reducible assumption)) | go_size))⟩
set_option maxRecDepth 100000 in
set_option maxHeartbeats 1000000 in
theorem timeAtR_err (x : Cr) (t : Int) (w : World) (h : ¬ pE x t = 0) :
    Calls Try.prog 27 #[.agg #[.int .i64 x.X1, .int .i64 x.H1, .int .i64 x.V1, .int .i64 x.X2, .int .i64 x.H2, .int .i64 x.V2], .int .i64 t] w fun e w' => e = .returned (.tuple #[.agg #[.int .i64 0, .int .i64 0], .int .i64 (pE x t)]) ∧ Below w.heap.size w w' := by
  have H := Lib.hid (fun W => crossPlace_any x t W)
  generalize pE x t = g at *
  go_enter Try.func27, Try.ntmps27
  go_wp2_with fail; (refine (H.out _).mono ?_; rintro e w1 ⟨rfl, hw1⟩; obtain ⟨hcw1, hfw1, hlw1, hmw1, hnw1⟩ := bcell3 hw1; have hzw1 := hw1.size; (try simp only [World.size_alloc, World.size_setCell, World.size_drew, size_drewN] at hzw1))
  have r1_0 : w1.cell? ⟨w.heap.size + 1, 0, none⟩ = some (.int .i64 0) := (hcw1 (w.heap.size + 1) 0 (by first | omega | (simp only [World.size_alloc, World.size_drew, World.size_setCell, size_drewN]; omega))).trans (by simp [go_sem, *]); have p1_0 : w1.frozen? ⟨w.heap.size + 1, 0, none⟩ = false := (hfw1 (w.heap.size + 1) 0 (by first | omega | (simp only [World.size_alloc, World.size_drew, World.size_setCell, size_drewN]; omega))).trans (by simp [go_sem, *]); have r1_1 : w1.cell? ⟨w.heap.size + 1, 1, none⟩ = some (.int .i64 0) := (hcw1 (w.heap.size + 1) 1 (by first | omega | (simp only [World.size_alloc, World.size_drew, World.size_setCell, size_drewN]; omega))).trans (by simp [go_sem, *]); have p1_1 : w1.frozen? ⟨w.heap.size + 1, 1, none⟩ = false := (hfw1 (w.heap.size + 1) 1 (by first | omega | (simp only [World.size_alloc, World.size_drew, World.size_setCell, size_drewN]; omega))).trans (by simp [go_sem, *]); have o1 : w.heap.size + 1 < w1.heap.size := (by omega)
  go_wp2
  refine bodyPost_ret (by simp [results, Try.results27, go_sem, *]; rfl) rfl ?_
  exact ⟨rfl, by (repeat' (first | (with_reducible exact Below.refl _ _) | (with_reducible assumption) | (with_reducible refine Below.alloc ?_ ?_ _) | (with_reducible refine Below.drew ?_) | (with_reducible refine below_drewN ?_ _) | (with_reducible refine Below.setCell ?_ ?_ _) | (with_reducible refine below_step (by with_reducible assumption) ?_ ?_) | (with_reducible exact Below.size (by with_reducible assumption)) | go_size))⟩
set_option maxRecDepth 100000 in
set_option maxHeartbeats 1000000 in
theorem timeAtR_ok (x : Cr) (t : Int) (w : World) (h : okC x) (ht : inC x t) :
    Calls Try.prog 27 #[.agg #[.int .i64 x.X1, .int .i64 x.H1, .int .i64 x.V1, .int .i64 x.X2, .int .i64 x.H2, .int .i64 x.V2], .int .i64 t] w fun e w' => e = .returned (.tuple #[.agg #[.int .i64 (tL x t), .int .i64 (tH x t)], .int .i64 0]) ∧ Below w.heap.size w w' := by
  have K : ∀ W, _ := fun W => crossPlace_any x t W
  rw [pE_zero.2 ⟨h, ht⟩] at K
  have H := Lib.hid K
  have H2 := Lib.hid (fun W => timeAt_any x t W h ht)
  clear K h ht
  go_enter Try.func27, Try.ntmps27
  go_wp2_with fail; (refine (H.out _).mono ?_; rintro e w1 ⟨rfl, hw1⟩; obtain ⟨hcw1, hfw1, hlw1, hmw1, hnw1⟩ := bcell3 hw1; have hzw1 := hw1.size; (try simp only [World.size_alloc, World.size_setCell, World.size_drew, size_drewN] at hzw1))
  have r1_0 : w1.cell? ⟨w.heap.size + 1, 0, none⟩ = some (.int .i64 0) := (hcw1 (w.heap.size + 1) 0 (by first | omega | (simp only [World.size_alloc, World.size_drew, World.size_setCell, size_drewN]; omega))).trans (by simp [go_sem, *]); have p1_0 : w1.frozen? ⟨w.heap.size + 1, 0, none⟩ = false := (hfw1 (w.heap.size + 1) 0 (by first | omega | (simp only [World.size_alloc, World.size_drew, World.size_setCell, size_drewN]; omega))).trans (by simp [go_sem, *]); have r1_1 : w1.cell? ⟨w.heap.size + 1, 1, none⟩ = some (.int .i64 0) := (hcw1 (w.heap.size + 1) 1 (by first | omega | (simp only [World.size_alloc, World.size_drew, World.size_setCell, size_drewN]; omega))).trans (by simp [go_sem, *]); have p1_1 : w1.frozen? ⟨w.heap.size + 1, 1, none⟩ = false := (hfw1 (w.heap.size + 1) 1 (by first | omega | (simp only [World.size_alloc, World.size_drew, World.size_setCell, size_drewN]; omega))).trans (by simp [go_sem, *]); have o1 : w.heap.size + 1 < w1.heap.size := (by omega)
  go_wp2_with fail; (refine (crossingOf_any x _).mono ?_; rintro e w2 ⟨rfl, hw2⟩; obtain ⟨hcw2, hfw2, hlw2, hmw2, hnw2⟩ := bcell3 hw2; have hzw2 := hw2.size; (try simp only [World.size_alloc, World.size_setCell, World.size_drew, size_drewN] at hzw2))
  have r2_0 : w2.cell? ⟨w.heap.size + 1, 0, none⟩ = some (.int .i64 0) := (hcw2 (w.heap.size + 1) 0 (by first | omega | (simp only [World.size_alloc, World.size_drew, World.size_setCell, size_drewN]; omega))).trans (by simp [go_sem, *]); have p2_0 : w2.frozen? ⟨w.heap.size + 1, 0, none⟩ = false := (hfw2 (w.heap.size + 1) 0 (by first | omega | (simp only [World.size_alloc, World.size_drew, World.size_setCell, size_drewN]; omega))).trans (by simp [go_sem, *]); have r2_1 : w2.cell? ⟨w.heap.size + 1, 1, none⟩ = some (.int .i64 0) := (hcw2 (w.heap.size + 1) 1 (by first | omega | (simp only [World.size_alloc, World.size_drew, World.size_setCell, size_drewN]; omega))).trans (by simp [go_sem, *]); have p2_1 : w2.frozen? ⟨w.heap.size + 1, 1, none⟩ = false := (hfw2 (w.heap.size + 1) 1 (by first | omega | (simp only [World.size_alloc, World.size_drew, World.size_setCell, size_drewN]; omega))).trans (by simp [go_sem, *]); have o2 : w.heap.size + 1 < w2.heap.size := (by omega)
  go_wp2_with fail; (refine (H2.out _).mono ?_; rintro e w3 ⟨rfl, hw3⟩; obtain ⟨hcw3, hfw3, hlw3, hmw3, hnw3⟩ := bcell3 hw3; have hzw3 := hw3.size; (try simp only [World.size_alloc, World.size_setCell, World.size_drew, size_drewN] at hzw3))
  have r3_0 : w3.cell? ⟨w.heap.size + 1, 0, none⟩ = some (.int .i64 0) := (hcw3 (w.heap.size + 1) 0 (by first | omega | (simp only [World.size_alloc, World.size_drew, World.size_setCell, size_drewN]; omega))).trans (by simp [go_sem, *]); have p3_0 : w3.frozen? ⟨w.heap.size + 1, 0, none⟩ = false := (hfw3 (w.heap.size + 1) 0 (by first | omega | (simp only [World.size_alloc, World.size_drew, World.size_setCell, size_drewN]; omega))).trans (by simp [go_sem, *]); have r3_1 : w3.cell? ⟨w.heap.size + 1, 1, none⟩ = some (.int .i64 0) := (hcw3 (w.heap.size + 1) 1 (by first | omega | (simp only [World.size_alloc, World.size_drew, World.size_setCell, size_drewN]; omega))).trans (by simp [go_sem, *]); have p3_1 : w3.frozen? ⟨w.heap.size + 1, 1, none⟩ = false := (hfw3 (w.heap.size + 1) 1 (by first | omega | (simp only [World.size_alloc, World.size_drew, World.size_setCell, size_drewN]; omega))).trans (by simp [go_sem, *]); have o3 : w.heap.size + 1 < w3.heap.size := (by omega)
  go_wp2
  refine bodyPost_ret (by simp [results, Try.results27, go_sem, *]; rfl) rfl ?_
  exact ⟨rfl, by (repeat' (first | (with_reducible exact Below.refl _ _) | (with_reducible assumption) | (with_reducible refine Below.alloc ?_ ?_ _) | (with_reducible refine Below.drew ?_) | (with_reducible refine below_drewN ?_ _) | (with_reducible refine Below.setCell ?_ ?_ _) | (with_reducible refine below_step (by with_reducible assumption) ?_ ?_) | (with_reducible exact Below.size (by with_reducible assumption)) | go_size))⟩
set_option maxRecDepth 100000 in
set_option maxHeartbeats 1000000 in
theorem checkCrossing_err (x : Cr) (t : Int) (w : World) (h : ¬ pE x t = 0) :
    Calls Try.prog 28 #[.agg #[.int .i64 x.X1, .int .i64 x.H1, .int .i64 x.V1, .int .i64 x.X2, .int .i64 x.H2, .int .i64 x.V2], .int .i64 t] w fun e w' => e = .returned (.int .i64 (pE x t)) ∧ Below w.heap.size w w' := by
  have H := Lib.hid (fun W => crossPlace_any x t W)
  generalize pE x t = g at *
  go_enter Try.func28, Try.ntmps28
  go_wp2_with fail; (refine (H.out _).mono ?_; rintro e w1 ⟨rfl, hw1⟩; obtain ⟨hcw1, hfw1, hlw1, hmw1, hnw1⟩ := bcell3 hw1; have hzw1 := hw1.size; (try simp only [World.size_alloc, World.size_setCell, World.size_drew, size_drewN] at hzw1))
  go_wp2
  go_ret
  exact ⟨rfl, by (repeat' (first | (with_reducible exact Below.refl _ _) | (with_reducible assumption) | (with_reducible refine Below.alloc ?_ ?_ _) | (with_reducible refine Below.drew ?_) | (with_reducible refine below_drewN ?_ _) | (with_reducible refine Below.setCell ?_ ?_ _) | (with_reducible refine below_step (by with_reducible assumption) ?_ ?_) | (with_reducible exact Below.size (by with_reducible assumption)) | go_size))⟩

/-- whether a place is accepted -/
def kX (x : Cr) (t : Int) : Int := if slp x t ≤ 0 ∧ (t = max x.X1 x.X2 ∨ 0 < slp x (t + 1)) then 0 else 18
theorem kX_last {x : Cr} {t : Int} (h : t = max x.X1 x.X2) : kX x t = frst [unl (decide (slp x t ≤ 0)) 18, unl true 18] := by
  unfold kX
  by_cases h1 : slp x t ≤ 0 <;> simp [frst, unl, h1, h]
theorem kX_more {x : Cr} {t : Int} (h : ¬ t = max x.X1 x.X2) : kX x t = frst [unl (decide (slp x t ≤ 0)) 18, unl (decide (0 < slp x (t + 1))) 18] := by
  unfold kX
  by_cases h1 : slp x t ≤ 0 <;> by_cases h2 : 0 < slp x (t + 1) <;> simp [frst, unl, h1, h2, h]
end Go.Proofs.Ytpphnnbijmoodaa
