/-
  CriticalSquare of package ray, with its errors.
-/
import Derived.Test.YtpphnnbijmoodaaGcd
set_option linter.unusedVariables false
set_option linter.unusedSimpArgs false
namespace Go.Proofs.Ytpphnnbijmoodaa
open Go.RowKit

def qE (f s : Int) : Int := frst [unl (inB f 500 10000) 2, unl (inB s 500 10000) 2, unl (decide (f < s)) 12]
/-- two speeds' squares in lowest terms -/
def crN (f s : Int) : Int := f * f / gcdR (f * f) (s * s)
def crD (f s : Int) : Int := s * s / gcdR (f * f) (s * s)

set_option maxRecDepth 100000 in
set_option maxHeartbeats 400000 in
theorem critical_err (f s : Int) (w : World) (h : ¬ qE f s = 0) :
    Calls Try.prog 64 #[.int .i64 f, .int .i64 s] w fun e w' => e = .returned (.tuple #[.agg #[.int .i64 0, .int .i64 0], .int .i64 (qE f s)]) ∧ Below w.heap.size w w' := by
  have hf : frst [unl (inB f 500 10000) 2, unl (inB s 500 10000) 2, unl (decide (f < s)) 12] = qE f s := rfl
  generalize qE f s = g at *
  have HF := Lib.hid hf
  clear hf
  go_enter Try.func64, Try.ntmps64
  go_wp2_with (first | (go_at_call 80; refine (speedError_any _ _).mono ?_; rintro e w' ⟨rfl, rfl⟩) | (go_at_call 88; refine (unless_any _ _ _).mono ?_; rintro e w' ⟨rfl, rfl⟩) | (go_at_call 77; refine (first3 (unl (inB f 500 10000) 2) (unl (inB s 500 10000) 2) (unl (decide (f < s)) 12) _ _ (cell_fresh _ _ _ _ _ _ (by simp) rfl) (cell_fresh _ _ _ _ _ _ (by simp) rfl) (cell_fresh _ _ _ _ _ _ (by simp) rfl)).mono ?_; rw [HF.out]; rintro e w' ⟨rfl, rfl⟩))
  refine bodyPost_ret (by simp [results, Try.results64, go_sem, *]; rfl) rfl ?_
  exact ⟨rfl, by (repeat' (first | (with_reducible exact Below.refl _ _) | (with_reducible assumption) | (with_reducible refine Below.alloc ?_ ?_ _) | (with_reducible refine Below.drew ?_) | (with_reducible refine below_drewN ?_ _) | (with_reducible refine Below.setCell ?_ ?_ _) | (with_reducible refine below_step (by with_reducible assumption) ?_ ?_) | (with_reducible exact Below.size (by with_reducible assumption)) | go_size))⟩
theorem qE_zero {f s : Int} : qE f s = 0 ↔ (500 ≤ f ∧ f ≤ 10000) ∧ (500 ≤ s ∧ s ≤ 10000) ∧ f < s := by
  unfold qE
  simp only [frst]
  by_cases h1 : (500 ≤ f ∧ f ≤ 10000) <;> by_cases h2 : (500 ≤ s ∧ s ≤ 10000) <;> by_cases h3 : f < s <;> simp [inB, unl, h1, h2, h3]
set_option maxRecDepth 100000 in
set_option maxHeartbeats 400000 in
theorem critical_ok (f s : Int) (w : World) (h : qE f s = 0) :
    Calls Try.prog 64 #[.int .i64 f, .int .i64 s] w fun e w' => e = .returned (.tuple #[.agg #[.int .i64 (crN f s), .int .i64 (crD f s)], .int .i64 0]) ∧ Below w.heap.size w w' := by
  have HF := Lib.hid (show frst [unl (inB f 500 10000) 2, unl (inB s 500 10000) 2, unl (decide (f < s)) 12] = 0 from h)
  rw [qE_zero] at h
  obtain ⟨h1, h2, h3⟩ := h
  have k1 : 500 * 500 ≤ f * f := sq_mono (by omega) (by omega)
  have k2 : f * f ≤ 10000 * 10000 := sq_mono (by omega) (by omega)
  have k3 : 500 * 500 ≤ s * s := sq_mono (by omega) (by omega)
  have k4 : s * s ≤ 10000 * 10000 := sq_mono (by omega) (by omega)
  have K := Lib.hid (fun W => lowest_any (f * f) (s * s) W (by omega) (by omega))
  clear h1 h2 h3
  go_enter Try.func64, Try.ntmps64
  go_wp2_with (first | (go_at_call 80; refine (speedError_any _ _).mono ?_; rintro e w' ⟨rfl, rfl⟩) | (go_at_call 88; refine (unless_any _ _ _).mono ?_; rintro e w' ⟨rfl, rfl⟩) | (go_at_call 77; refine (first3 (unl (inB f 500 10000) 2) (unl (inB s 500 10000) 2) (unl (decide (f < s)) 12) _ _ (cell_fresh _ _ _ _ _ _ (by simp) rfl) (cell_fresh _ _ _ _ _ _ (by simp) rfl) (cell_fresh _ _ _ _ _ _ (by simp) rfl)).mono ?_; rw [HF.out]; rintro e w' ⟨rfl, rfl⟩) | (go_at_call 108; refine (K.out _).mono ?_; rintro e w1 ⟨rfl, hw1⟩; obtain ⟨hcw1, hfw1, hlw1, hmw1, hnw1⟩ := bcell3 hw1; have hzw1 := hw1.size; (try simp only [World.size_alloc, World.size_setCell, World.size_drew, size_drewN] at hzw1)))
  have o1 : w.heap.size < w1.heap.size := by omega
  go_wp2
  refine bodyPost_ret (by simp [results, Try.results64, go_sem, *]; rfl) rfl ?_
  exact ⟨rfl, by (repeat' (first | (with_reducible exact Below.refl _ _) | (with_reducible assumption) | (with_reducible refine Below.alloc ?_ ?_ _) | (with_reducible refine Below.drew ?_) | (with_reducible refine below_drewN ?_ _) | (with_reducible refine Below.setCell ?_ ?_ _) | (with_reducible refine below_step (by with_reducible assumption) ?_ ?_) | (with_reducible exact Below.size (by with_reducible assumption)) | go_size))⟩
end Go.Proofs.Ytpphnnbijmoodaa
