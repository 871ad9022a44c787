/-
  DIRECTIONS of the reference: DirectionErr, Passes, IsSmall.
-/
import Derived.Test.YtpphnnbijmoodaaAngle
set_option linter.unusedVariables false
set_option linter.unusedSimpArgs false
namespace Go.Proofs.Ytpphnnbijmoodaa
open Go.RowKit

set_option maxHeartbeats 400000 in
theorem refDirection_any (a b : Int) (w : World) :
    Calls Try.prog 68 #[.agg #[.int .i64 a, .int .i64 b]] w fun e w' => e = .returned (.int .i64 (dE a b)) ∧ Below w.heap.size w w' := by
  have HE := Lib.hid (show dE a b = unl (inB a (-1000) 1000 && inB b 1 1000) 2 from rfl)
  cases c1 : inB a (-1000) 1000
  · rw [c1] at HE
    have C1 := Lib.hid c1
    go_enter Try.func68, Try.ntmps68
    go_wp2_with fail
    refine (bwithin_any _ _ _ _).mono ?_
    rw [C1.out]
    rintro e w' ⟨rfl, rfl⟩
    go_wp2
    go_ret
    exact ⟨ri HE.out.symm, by (repeat' (first | (with_reducible exact Below.refl _ _) | (with_reducible assumption) | (with_reducible refine Below.alloc ?_ ?_ _) | (with_reducible refine Below.drew ?_) | (with_reducible refine below_drewN ?_ _) | (with_reducible refine Below.setCell ?_ ?_ _) | (with_reducible refine below_step (by with_reducible assumption) ?_ ?_) | (with_reducible exact Below.size (by with_reducible assumption)) | go_size))⟩
  · cases c2 : inB b 1 1000
    all_goals
      rw [c1, c2] at HE
      have C1 := Lib.hid c1
      have C2 := Lib.hid c2
      go_enter Try.func68, Try.ntmps68
      go_wp2_with fail
      refine (bwithin_any _ _ _ _).mono ?_
      rw [C1.out]
      rintro e w' ⟨rfl, rfl⟩
      go_wp2_with fail
      refine (bwithin_any _ _ _ _).mono ?_
      rw [C2.out]
      rintro e w' ⟨rfl, rfl⟩
      go_wp2
      go_ret
      exact ⟨ri HE.out.symm, by (repeat' (first | (with_reducible exact Below.refl _ _) | (with_reducible assumption) | (with_reducible refine Below.alloc ?_ ?_ _) | (with_reducible refine Below.drew ?_) | (with_reducible refine below_drewN ?_ _) | (with_reducible refine Below.setCell ?_ ?_ _) | (with_reducible refine below_step (by with_reducible assumption) ?_ ?_) | (with_reducible exact Below.size (by with_reducible assumption)) | go_size))⟩

set_option maxHeartbeats 400000 in
theorem refPasses_any (a b f s : Int) (w : World) (h : okA a b f s) :
    Calls Try.prog 70 #[.agg #[.int .i64 a, .int .i64 b], .int .i64 f, .int .i64 s] w fun e w' => e = .returned (.bool (decide (bN a s ≤ bD a b f))) ∧ Below w.heap.size w w' := by
  obtain ⟨h1, h2, h3, h4, h5, h6⟩ := b_bd h
  have e : bD a b f = f * f * (a * a + b * b) := by unfold bD; grind
  have f1 : 0 ≤ f * f ∧ f * f ≤ 10000 * 10000 := ⟨sq_nonneg f, sqle ⟨by have := h.2.1; omega, h.2.1.2⟩⟩
  rw [e] at h6
  have HN := Lib.hid (show bN a s = a * a * s * s from rfl)
  have HD := Lib.hid e
  unfold bN at h4
  clear h e
  go_enter Try.func70, Try.ntmps70
  go_wp2
  go_ret
  exact ⟨by rw [HN.out, HD.out]; rfl, by (repeat' (first | (with_reducible exact Below.refl _ _) | (with_reducible assumption) | (with_reducible refine Below.alloc ?_ ?_ _) | (with_reducible refine Below.drew ?_) | (with_reducible refine below_drewN ?_ _) | (with_reducible refine Below.setCell ?_ ?_ _) | (with_reducible refine below_step (by with_reducible assumption) ?_ ?_) | (with_reducible exact Below.size (by with_reducible assumption)) | go_size))⟩

set_option maxHeartbeats 400000 in
theorem isSmall_any (n d : Int) (w : World) :
    Calls Try.prog 112 #[.agg #[.int .i64 n, .int .i64 d]] w fun e w' => e = .returned (.bool (inB n (-1000000000) 1000000000 && inB d 1 1000000000)) ∧ Below w.heap.size w w' := by
  cases c1 : inB n (-1000000000) 1000000000
  · have C1 := Lib.hid c1
    go_enter Try.func112, Try.ntmps112
    go_wp2_with fail
    refine (bwithin_any _ _ _ _).mono ?_
    rw [C1.out]
    rintro e w' ⟨rfl, rfl⟩
    go_wp2
    go_ret
    exact ⟨rfl, by (repeat' (first | (with_reducible exact Below.refl _ _) | (with_reducible assumption) | (with_reducible refine Below.alloc ?_ ?_ _) | (with_reducible refine Below.drew ?_) | (with_reducible refine below_drewN ?_ _) | (with_reducible refine Below.setCell ?_ ?_ _) | (with_reducible refine below_step (by with_reducible assumption) ?_ ?_) | (with_reducible exact Below.size (by with_reducible assumption)) | go_size))⟩
  · have C1 := Lib.hid c1
    go_enter Try.func112, Try.ntmps112
    go_wp2_with fail
    refine (bwithin_any _ _ _ _).mono ?_
    rw [C1.out]
    rintro e w' ⟨rfl, rfl⟩
    go_wp2_with fail
    refine (bwithin_any _ _ _ _).mono ?_
    rintro e w' ⟨rfl, rfl⟩
    go_wp2
    go_ret
    exact ⟨rfl, by (repeat' (first | (with_reducible exact Below.refl _ _) | (with_reducible assumption) | (with_reducible refine Below.alloc ?_ ?_ _) | (with_reducible refine Below.drew ?_) | (with_reducible refine below_drewN ?_ _) | (with_reducible refine Below.setCell ?_ ?_ _) | (with_reducible refine below_step (by with_reducible assumption) ?_ ?_) | (with_reducible exact Below.size (by with_reducible assumption)) | go_size))⟩
end Go.Proofs.Ytpphnnbijmoodaa
