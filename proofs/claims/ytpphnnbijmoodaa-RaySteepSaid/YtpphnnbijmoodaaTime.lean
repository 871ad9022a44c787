/-
  TIMES OF LENGTHS: package ray's legTime and the reference's lasting; Length and TimeOf of both, with their errors.
-/
import Derived.Test.YtpphnnbijmoodaaLen
import Derived.Test.YtpphnnbijmoodaaFirst
import Derived.Deep.RegionHeld3
set_option linter.unusedVariables false
set_option linter.unusedSimpArgs false
namespace Go.Proofs.Ytpphnnbijmoodaa
open Go.RowKit

/-- the time of a length at a speed, rounded down and up -/
def tdn (l v : Int) : Int := 10000 * l / v
def tup (l v : Int) : Int := cdiv (10000 * l) v
theorem tdn_bd {l v : Int} (hl : 0 ≤ l) (hl2 : l ≤ 300000001) (hv : 500 ≤ v) : 0 ≤ tdn l v ∧ tdn l v ≤ 6000000100 := by
  unfold tdn
  have h0 := Int.ediv_nonneg (show 0 ≤ 10000 * l by omega) (show 0 ≤ v by omega)
  have h1 : 10000 * l / v ≤ 10000 * l / 500 := by
    rw [Int.le_ediv_iff_mul_le (by omega)]
    have e := Int.mul_ediv_self_le (x := 10000 * l) (k := v) (by omega)
    have e2 : 500 * (10000 * l / v) ≤ v * (10000 * l / v) := Int.mul_le_mul_of_nonneg_right hv h0
    omega
  exact ⟨Int.ediv_nonneg (by omega) (by omega), by omega⟩

set_option maxRecDepth 100000 in
set_option maxHeartbeats 1000000 in
theorem lasting_any (lo hi v : Int) (w : World) (h1 : 0 ≤ lo ∧ lo ≤ 300000001) (h2 : 0 ≤ hi ∧ hi ≤ 300000001) (h3 : 500 ≤ v ∧ v ≤ 10000) :
    Calls Try.prog 83 #[.agg #[.int .i64 lo, .int .i64 hi], .int .i64 v] w fun e w' => e = .returned (.agg #[.int .i64 (tdn lo v), .int .i64 (tup hi v)]) ∧ Below w.heap.size w w' := by
  go_enter Try.func83, Try.ntmps83
  go_wp2
  have wr1 : IntKind.i64.wrap (lo * 10000) = lo * 10000 := IntWalk.i64_in _ (by omega)
  have wr2 : IntKind.i64.wrap (hi * 10000) = hi * 10000 := IntWalk.i64_in _ (by omega)
  go_region_held3 (fun w' => w'.cell? ⟨w.heap.size, 0, none⟩ = some (.int .i64 lo) ∧ w'.cell? ⟨w.heap.size, 1, none⟩ = some (.int .i64 hi)) (go_keep)
    (first | (go_at_call 94; refine (floor_any _ _ _ ?_ ?_ ?_ ?_).mono ?_; (omega); (omega); (omega); (omega); rintro e w' ⟨rfl, rfl⟩) | (go_at_call 95; refine (ceil_any _ _ _ ?_ ?_ ?_ ?_).mono ?_; (omega); (omega); (omega); (omega); rintro e w' ⟨rfl, rfl⟩))
  go_wp2
  go_returns
  exact ⟨by rw [tdn, tup, Int.mul_comm lo, Int.mul_comm hi], by (repeat' (first | (with_reducible exact Below.refl _ _) | (with_reducible assumption) | (with_reducible refine Below.alloc ?_ ?_ _) | (with_reducible refine Below.drew ?_) | (with_reducible refine below_drewN ?_ _) | (with_reducible refine Below.setCell ?_ ?_ _) | (with_reducible refine below_step (by with_reducible assumption) ?_ ?_) | (with_reducible exact Below.size (by with_reducible assumption)) | go_size))⟩

set_option maxRecDepth 100000 in
set_option maxHeartbeats 1000000 in
theorem legTime_any (x1 z1 x2 z2 v : Int) (w : World) (h1 : inB x1 (-100000) 100000 = true) (h2 : inB z1 (-100000) 100000 = true) (h3 : inB x2 (-100000) 100000 = true) (h4 : inB z2 (-100000) 100000 = true) (h5 : inB v 500 10000 = true) :
    Calls Try.prog 81 #[.agg #[.int .i64 x1, .int .i64 z1], .agg #[.int .i64 x2, .int .i64 z2], .int .i64 v] w fun e w' => e = .returned (.agg #[.int .i64 (tdn (lLo (x2 - x1) (z2 - z1)) v), .int .i64 (tup (lHi (x2 - x1) (z2 - z1)) v)]) ∧ Below w.heap.size w w' := by
  have g1 := h1
  have g2 := h2
  have g3 := h3
  have g4 := h4
  simp only [inB, decide_eq_true_eq] at g1 g2 g3 g4 h5
  obtain ⟨s0, s1, s2, s3, s4, s5, s6, s7⟩ := len_spec (x := x2 - x1) (z := z2 - z1) (by omega) (by omega)
  have H1 := Lib.hid h1
  have H2 := Lib.hid h2
  have H3 := Lib.hid h3
  have H4 := Lib.hid h4
  clear h1 h2 h3 h4 s1 s2 s6 s7 g1 g2 g3 g4
  generalize hlo : lLo (x2 - x1) (z2 - z1) = lo at *
  generalize hhi : lHi (x2 - x1) (z2 - z1) = hi at *
  have HLO := Lib.hid hlo
  have HHI := Lib.hid hhi
  clear hlo hhi
  have wr1 : IntKind.i64.wrap (10000 * lo) = 10000 * lo := IntWalk.i64_in _ (by omega)
  have wr2 : IntKind.i64.wrap (10000 * hi) = 10000 * hi := IntWalk.i64_in _ (by omega)
  go_enter Try.func81, Try.ntmps81
  go_wp2_with (go_at_call 79; refine (lengthOf_any x1 z1 x2 z2 _ H1.out H2.out H3.out H4.out).mono ?_; rw [HLO.out, HHI.out]; rintro e w1 ⟨rfl, hw1⟩; obtain ⟨hcw1, hfw1⟩ := bcell hw1; have hzw1 := hw1.size; simp only [World.size_alloc] at hzw1)
  have q0 := bel_cell hw1 (w.heap.size + 1 + 1) 0 (.int .i64 0) (by simp only [World.size_alloc]; omega) (by go_cell)
  have q1 := bel_cell hw1 (w.heap.size + 1 + 1) 1 (.int .i64 0) (by simp only [World.size_alloc]; omega) (by go_cell)
  have q2 := bel_fz hw1 (w.heap.size + 1 + 1) 0 (by simp only [World.size_alloc]; omega) (by simp [go_sem])
  have q3 := bel_fz hw1 (w.heap.size + 1 + 1) 1 (by simp only [World.size_alloc]; omega) (by simp [go_sem])
  have q4 : w.heap.size + 1 + 1 < w1.heap.size := by omega
  have q5 : ¬ w.heap.size + 1 + 1 = w1.heap.size := by omega
  have q6 : ¬ w1.heap.size = w.heap.size + 1 + 1 := by omega
  clear hcw1 hfw1
  go_region_held3 (fun w' => w'.cell? ⟨w1.heap.size, 0, none⟩ = some (.int .i64 lo) ∧ w'.cell? ⟨w1.heap.size, 1, none⟩ = some (.int .i64 hi)) (first | (go_keep; done) | (refine ⟨?_, ?_⟩ <;> (simp only [World.cell?_drew]; exact cell_fresh _ _ _ _ _ _ (by simp) rfl)))
    (first | (go_at_call 101; refine (dd_any _ _ _ ?_ ?_ ?_ ?_).mono ?_; (omega); (omega); (omega); (omega); rintro e w' ⟨rfl, rfl⟩) | (go_at_call 102; refine (du_any _ _ _ ?_ ?_ ?_ ?_).mono ?_; (omega); (omega); (omega); (omega); rintro e w' ⟨rfl, rfl⟩))
  go_wp2
  refine bodyPost_ret (by simp [results, Try.results81, go_sem, q0, q1, q4, q5, q6]; rfl) rfl ?_
  exact ⟨rfl, by (repeat' (first | (with_reducible exact Below.refl _ _) | (with_reducible assumption) | (with_reducible refine Below.alloc ?_ ?_ _) | (with_reducible refine Below.drew ?_) | (with_reducible refine below_drewN ?_ _) | (with_reducible refine Below.setCell ?_ ?_ _) | (with_reducible refine below_step (by with_reducible assumption) ?_ ?_) | (with_reducible exact Below.size (by with_reducible assumption)) | go_size))⟩
end Go.Proofs.Ytpphnnbijmoodaa
