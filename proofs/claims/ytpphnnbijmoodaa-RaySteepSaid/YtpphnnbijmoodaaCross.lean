/-
  Crossing, Least, SlopeAt, TimeAt of package ray, with their errors.
-/
import Derived.Test.YtpphnnbijmoodaaLeast
import Derived.Test.YtpphnnbijmoodaaErrP
set_option linter.unusedVariables false
set_option linter.unusedSimpArgs false
namespace Go.Proofs.Ytpphnnbijmoodaa
open Go.RowKit

theorem unl_zero {b : Bool} {e : Int} (he : e ≠ 0) : unl b e = 0 ↔ b = true := by cases b <;> simp [unl, he]
theorem frst_zero {l : List Int} : frst l = 0 ↔ ∀ e ∈ l, e = 0 := by
  induction l with
  | nil => simp [frst]
  | cons a l ih =>
    simp only [frst, List.mem_cons, forall_eq_or_imp]
    split
    · rename_i h; rw [ih]; simp [h]
    · rename_i h; simp [h]
theorem inB_iff {n lo hi : Int} : inB n lo hi = true ↔ lo ≤ n ∧ n ≤ hi := by simp [inB]
theorem cE_zero {x : Cr} : cE x = 0 ↔ okC x := by
  unfold cE okC
  rw [frst_zero]
  simp only [List.mem_cons, List.not_mem_nil, or_false, forall_eq_or_imp, forall_eq, unl_zero (show (2 : Int) ≠ 0 by decide), Bool.and_eq_true, inB_iff]
  constructor
  · rintro ⟨⟨a, b⟩, ⟨c, d⟩, e, f⟩; exact ⟨a, b, c, d, e, f⟩
  · rintro ⟨a, b, c, d, e, f⟩; exact ⟨⟨a, b⟩, ⟨c, d⟩, e, f⟩

set_option maxRecDepth 100000 in
set_option maxHeartbeats 1000000 in
theorem crossing_err (x : Cr) (w : World) (h : ¬ cE x = 0) :
    Calls Try.prog 35 #[.agg #[.int .i64 x.X1, .int .i64 x.H1, .int .i64 x.V1, .int .i64 x.X2, .int .i64 x.H2, .int .i64 x.V2]] w fun e w' => e = .returned (.tuple #[.int .i64 0, .int .i64 (cE x)]) ∧ Below w.heap.size w w' := by
  go_enter Try.func35, Try.ntmps35
  go_wp2_with (go_at_call 30; refine (checkCross_any x _).mono ?_; rintro e w1 ⟨rfl, hw1⟩)
  go_ret2
  exact ⟨rfl, by (repeat' (first | (with_reducible exact Below.refl _ _) | (with_reducible assumption) | (with_reducible refine Below.alloc ?_ ?_ _) | (with_reducible refine Below.drew ?_) | (with_reducible refine below_drewN ?_ _) | (with_reducible refine Below.setCell ?_ ?_ _) | (with_reducible refine below_step (by with_reducible assumption) ?_ ?_) | (with_reducible exact Below.size (by with_reducible assumption)) | go_size))⟩
set_option maxRecDepth 100000 in
set_option maxHeartbeats 1000000 in
theorem crossing_ok (x : Cr) (w : World) (h : okC x) :
    Calls Try.prog 35 #[.agg #[.int .i64 x.X1, .int .i64 x.H1, .int .i64 x.V1, .int .i64 x.X2, .int .i64 x.H2, .int .i64 x.V2]] w fun e w' => e = .returned (.tuple #[.int .i64 (plc x), .int .i64 0]) ∧ Below w.heap.size w w' := by
  have h0 := cE_zero.2 h
  have K := Lib.hid (fun W => checkCross_any x W)
  rw [h0] at K
  have H := Lib.hid h
  clear h h0
  go_enter Try.func35, Try.ntmps35
  go_wp2_with (first
    | (go_at_call 30; refine (K.out _).mono ?_; rintro e w1 ⟨rfl, hw1⟩; obtain ⟨hcw1, hfw1, hlw1, hmw1, hnw1⟩ := bcell3 hw1; have hzw1 := hw1.size; (try simp only [World.size_alloc, World.size_setCell, World.size_drew, size_drewN] at hzw1))
    | (go_at_call 85; refine (crossingOf_any x _).mono ?_; rintro e w2 ⟨rfl, hw2⟩; obtain ⟨hcw2, hfw2, hlw2, hmw2, hnw2⟩ := bcell3 hw2; have hzw2 := hw2.size; (try simp only [World.size_alloc, World.size_setCell, World.size_drew, size_drewN] at hzw2))
    | (go_at_call 92; refine (place_any x _ H.out).mono ?_; rintro e w3 ⟨rfl, hw3⟩; obtain ⟨hcw3, hfw3, hlw3, hmw3, hnw3⟩ := bcell3 hw3; have hzw3 := hw3.size; (try simp only [World.size_alloc, World.size_setCell, World.size_drew, size_drewN] at hzw3)))
  go_ret2
  exact ⟨rfl, by (repeat' (first | (with_reducible exact Below.refl _ _) | (with_reducible assumption) | (with_reducible refine Below.alloc ?_ ?_ _) | (with_reducible refine Below.drew ?_) | (with_reducible refine below_drewN ?_ _) | (with_reducible refine Below.setCell ?_ ?_ _) | (with_reducible refine below_step (by with_reducible assumption) ?_ ?_) | (with_reducible exact Below.size (by with_reducible assumption)) | go_size))⟩
set_option maxRecDepth 100000 in
set_option maxHeartbeats 1000000 in
theorem least_err (x : Cr) (w : World) (h : ¬ cE x = 0) :
    Calls Try.prog 36 #[.agg #[.int .i64 x.X1, .int .i64 x.H1, .int .i64 x.V1, .int .i64 x.X2, .int .i64 x.H2, .int .i64 x.V2]] w fun e w' => e = .returned (.tuple #[.agg #[.int .i64 0, .int .i64 0], .int .i64 (cE x)]) ∧ Below w.heap.size w w' := by
  go_enter Try.func36, Try.ntmps36
  go_wp2_with (go_at_call 30; refine (checkCross_any x _).mono ?_; rintro e w1 ⟨rfl, hw1⟩; obtain ⟨hcw1, hfw1, hlw1, hmw1, hnw1⟩ := bcell3 hw1)
  refine bodyPost_ret (by simp [results, Try.results36, go_sem, *]; rfl) rfl ?_
  exact ⟨rfl, by (repeat' (first | (with_reducible exact Below.refl _ _) | (with_reducible assumption) | (with_reducible refine Below.alloc ?_ ?_ _) | (with_reducible refine Below.drew ?_) | (with_reducible refine below_drewN ?_ _) | (with_reducible refine Below.setCell ?_ ?_ _) | (with_reducible refine below_step (by with_reducible assumption) ?_ ?_) | (with_reducible exact Below.size (by with_reducible assumption)) | go_size))⟩
set_option maxRecDepth 100000 in
set_option maxHeartbeats 1000000 in
theorem least_ok (x : Cr) (w : World) (h : okC x) :
    Calls Try.prog 36 #[.agg #[.int .i64 x.X1, .int .i64 x.H1, .int .i64 x.V1, .int .i64 x.X2, .int .i64 x.H2, .int .i64 x.V2]] w fun e w' => e = .returned (.tuple #[.agg #[.int .i64 (lsL x), .int .i64 (lsH x)], .int .i64 0]) ∧ Below w.heap.size w w' := by
  have h0 := cE_zero.2 h
  have K := Lib.hid (fun W => checkCross_any x W)
  rw [h0] at K
  have H := Lib.hid h
  clear h h0
  go_enter Try.func36, Try.ntmps36
  go_wp2_with fail
  refine (K.out _).mono ?_
  rintro e w1 ⟨rfl, hw1⟩
  obtain ⟨hcw1, hfw1, hlw1, hmw1, hnw1⟩ := bcell3 hw1
  have hz1 := hw1.size
  try simp only [World.size_alloc] at hz1
  have o1 : w.heap.size < w1.heap.size := by omega
  have o2 : w.heap.size + 1 < w1.heap.size := by omega
  go_wp2_with fail
  refine (crossingOf_any x _).mono ?_
  rintro e w2 ⟨rfl, hw2⟩
  obtain ⟨hcw2, hfw2, hlw2, hmw2, hnw2⟩ := bcell3 hw2
  have hz2 := hw2.size
  have o3 : w.heap.size + 1 < w2.heap.size := by omega
  go_wp2_with fail
  refine (leastTime_any x _ H.out).mono ?_
  rintro e w3 ⟨rfl, hw3⟩
  obtain ⟨hcw3, hfw3, hlw3, hmw3, hnw3⟩ := bcell3 hw3
  go_wp2
  refine bodyPost_ret (by simp [results, Try.results36, go_sem, *]; rfl) rfl ?_
  exact ⟨rfl, by (repeat' (first | (with_reducible exact Below.refl _ _) | (with_reducible assumption) | (with_reducible refine Below.alloc ?_ ?_ _) | (with_reducible refine Below.drew ?_) | (with_reducible refine below_drewN ?_ _) | (with_reducible refine Below.setCell ?_ ?_ _) | (with_reducible refine below_step (by with_reducible assumption) ?_ ?_) | (with_reducible exact Below.size (by with_reducible assumption)) | go_size))⟩
end Go.Proofs.Ytpphnnbijmoodaa
