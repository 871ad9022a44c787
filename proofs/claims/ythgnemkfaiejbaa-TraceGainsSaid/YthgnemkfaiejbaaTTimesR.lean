/-
  TIMES, as the reference tells them.
-/
import Derived.Test.YthgnemkfaiejbaaTGateOk
set_option linter.unusedVariables false
set_option linter.unusedSimpArgs false
namespace Go.Proofs.Ythgnemkfaiejbaa
open Go.RowKit

set_option maxRecDepth 100000 in
set_option maxHeartbeats 1000000 in
theorem timeErrR_any (n : Int) (w : World) : Calls Try.prog 78 #[.int .i64 n] w fun e w' => e = .returned (.int .i64 (unl (inB n (-1000000000000) 1000000000000) 2)) ∧ w = w' := by
  have K := Lib.hid (fun W => bwithin_any n (-1000000000000) 1000000000000 W)
  cases h : inB n (-1000000000000) 1000000000000
  all_goals
    rw [h] at K
    go_enter Try.func78, Try.ntmps78
    go_wp2_with (go_at_call 42; refine (K.out _).mono ?_; rintro e w' ⟨rfl, rfl⟩)
    go_ret
    exact ⟨rfl, rfl⟩
set_option maxRecDepth 100000 in
set_option maxHeartbeats 1000000 in
theorem checkSamplingR_any (f s : Int) (w : World) : Calls Try.prog 75 #[.agg #[.int .i64 f, .int .i64 s]] w fun e w' => e = .returned (.int .i64 (smE f s)) ∧ Below w.heap.size w w' := by
  have K1 := Lib.hid (fun W => bwithin_any f 0 1000000000000 W)
  have K2 := Lib.hid (fun W => bwithin_any s 1 100000000 W)
  have HE := Lib.hid (show smE f s = frst [unl (inB f 0 1000000000000) 2, unl (inB s 1 100000000) 2] from rfl)
  cases h1 : inB f 0 1000000000000
  all_goals cases h2 : inB s 1 100000000
  all_goals
    rw [h1] at K1
    rw [h2] at K2
    rw [h1, h2] at HE
    go_enter Try.func75, Try.ntmps75
    go_wp2_with fail
    refine (K1.out _).mono ?_
    rintro e w' ⟨rfl, rfl⟩
    go_wp2_with fail
    (try (refine (K2.out _).mono ?_; rintro e w' ⟨rfl, rfl⟩))
    go_wp2
    go_ret
    exact ⟨ri HE.out.symm, by (repeat' (first | (with_reducible exact Below.refl _ _) | (with_reducible assumption) | (with_reducible refine Below.alloc ?_ ?_ _) | (with_reducible refine Below.drew ?_) | (with_reducible refine below_drewN ?_ _) | (with_reducible refine Below.setCell ?_ ?_ _) | (with_reducible refine below_step (by with_reducible assumption) ?_ ?_) | (with_reducible exact Below.size (by with_reducible assumption)) | go_size))⟩
set_option maxRecDepth 100000 in
set_option maxHeartbeats 1000000 in
theorem timeOfR_any (f s n : Int) (w : World) (hs : smE f s = 0) : Calls Try.prog 77 #[.agg #[.int .i64 f, .int .i64 s], .int .i64 n] w fun e w' => e = .returned (.tuple #[.int .i64 (if inB n 0 63 = true then f + n * s else 0), .int .i64 (unl (inB n 0 63) 2)]) ∧ Below w.heap.size w w' := by
  obtain ⟨⟨f0, f1⟩, s0, s1⟩ := smE_ok hs
  have K1 := Lib.hid (fun W => bwithin_any n 0 63 W)
  cases h1 : inB n 0 63
  · rw [h1] at K1
    clear hs h1
    go_enter Try.func77, Try.ntmps77
    go_wp2_with (go_at_call 42; refine (K1.out _).mono ?_; rintro e w' ⟨rfl, rfl⟩)
    go_ret2
    exact ⟨rfl, by (repeat' (first | (with_reducible exact Below.refl _ _) | (with_reducible assumption) | (with_reducible refine Below.alloc ?_ ?_ _) | (with_reducible refine Below.drew ?_) | (with_reducible refine below_drewN ?_ _) | (with_reducible refine Below.setCell ?_ ?_ _) | (with_reducible refine below_step (by with_reducible assumption) ?_ ?_) | (with_reducible exact Below.size (by with_reducible assumption)) | go_size))⟩
  · rw [h1] at K1
    have hn : 0 ≤ n ∧ n ≤ 63 := of_decide_eq_true h1
    have hp0 : 0 ≤ n * s := Int.mul_nonneg hn.1 (by omega)
    have hp1 : n * s ≤ 63 * 100000000 := Int.mul_le_mul hn.2 s1 (by omega) (by omega)
    clear hs h1
    go_enter Try.func77, Try.ntmps77
    go_wp2_with (go_at_call 42; refine (K1.out _).mono ?_; rintro e w' ⟨rfl, rfl⟩)
    go_ret2
    exact ⟨rfl, by (repeat' (first | (with_reducible exact Below.refl _ _) | (with_reducible assumption) | (with_reducible refine Below.alloc ?_ ?_ _) | (with_reducible refine Below.drew ?_) | (with_reducible refine below_drewN ?_ _) | (with_reducible refine Below.setCell ?_ ?_ _) | (with_reducible refine below_step (by with_reducible assumption) ?_ ?_) | (with_reducible exact Below.size (by with_reducible assumption)) | go_size))⟩
set_option maxRecDepth 100000 in
set_option maxHeartbeats 1000000 in
theorem roundedR_any (n b : Int) (w : World) (hb : 1 ≤ b) (lo : -1000000000000000 ≤ n) (hi : n ≤ 1000000000000000) (hb2 : b ≤ 1000000000000000) :
    Calls Try.prog 126 #[.int .i64 n, .int .i64 b] w fun e w' => e = .returned (.int .i64 ((2 * n + b) / (2 * b))) ∧ w = w' := by
  go_enter Try.func126, Try.ntmps126
  go_wp2_with (go_at_call 148; refine (floor_any _ _ _ (by omega) (by omega) (by omega) (by omega)).mono ?_; rintro e w' ⟨rfl, rfl⟩)
  go_ret
  exact ⟨rfl, rfl⟩
def nV (f s t : Int) : Int := if inB (neN f s t) 0 63 = true then neN f s t else 0
def nE (f s t : Int) : Int := unl (inB (neN f s t) 0 63) 12
set_option maxRecDepth 100000 in
set_option maxHeartbeats 1000000 in
theorem nearestR_any (f s t : Int) (w : World) (hs : smE f s = 0) (ht : inB t (-1000000000000) 1000000000000 = true) : Calls Try.prog 79 #[.agg #[.int .i64 f, .int .i64 s], .int .i64 t] w fun e w' => e = .returned (.tuple #[.int .i64 (nV f s t), .int .i64 (nE f s t)]) ∧ Below w.heap.size w w' := by
  obtain ⟨⟨f0, f1⟩, s0, s1⟩ := smE_ok hs
  have hn : -1000000000000 ≤ t ∧ t ≤ 1000000000000 := of_decide_eq_true ht
  have KR := Lib.hid (fun W => roundedR_any (t - f) s W (by omega) (by omega) (by omega) (by omega))
  rw [show (2 * (t - f) + s) / (2 * s) = neN f s t from rfl] at KR
  have HV := Lib.hid (show nV f s t = if inB (neN f s t) 0 63 = true then neN f s t else 0 from rfl)
  have HE := Lib.hid (show nE f s t = unl (inB (neN f s t) 0 63) 12 from rfl)
  clear hs ht
  generalize nV f s t = V at *
  generalize nE f s t = E at *
  generalize neN f s t = N at *
  have K1 := Lib.hid (fun W => bwithin_any N 0 63 W)
  cases h1 : inB N 0 63
  all_goals
    rw [h1] at K1 HV HE
    have wr1 : IntKind.i64.wrap (t - f) = t - f := IntWalk.i64_in _ (by omega)
    clear h1
    go_enter Try.func79, Try.ntmps79
    go_wp2_with (first | (go_at_call 42; refine (K1.out _).mono ?_; rintro e w' ⟨rfl, rfl⟩) | (go_at_call 126; refine (KR.out _).mono ?_; rintro e w' ⟨rfl, rfl⟩))
    go_ret2
    exact ⟨by rw [HV.out, HE.out]; rfl, by (repeat' (first | (with_reducible exact Below.refl _ _) | (with_reducible assumption) | (with_reducible refine Below.alloc ?_ ?_ _) | (with_reducible refine Below.drew ?_) | (with_reducible refine below_drewN ?_ _) | (with_reducible refine Below.setCell ?_ ?_ _) | (with_reducible refine below_step (by with_reducible assumption) ?_ ?_) | (with_reducible exact Below.size (by with_reducible assumption)) | go_size))⟩
theorem ceil_bel (n b : Int) (w : World) (hb : 1 ≤ b) (lo : -9223372036854775807 ≤ n) (hi : n ≤ 9223372036854775807) (hb2 : b ≤ 9223372036854775807) :
    Calls Try.prog 147 #[.int .i64 n, .int .i64 b] w fun e w' => e = .returned (.int .i64 (cdiv n b)) ∧ Below w.heap.size w w' :=
  (ceil_any n b w hb lo hi hb2).mono fun e w' h => ⟨h.1, h.2 ▸ Below.refl _ _⟩
theorem floor_bel (n b : Int) (w : World) (hb : 1 ≤ b) (lo : -9223372036854775807 ≤ n) (hi : n ≤ 9223372036854775807) (hb2 : b ≤ 9223372036854775807) :
    Calls Try.prog 148 #[.int .i64 n, .int .i64 b] w fun e w' => e = .returned (.int .i64 (n / b)) ∧ Below w.heap.size w w' :=
  (floor_any n b w hb lo hi hb2).mono fun e w' h => ⟨h.1, h.2 ▸ Below.refl _ _⟩
set_option maxRecDepth 100000 in
set_option maxHeartbeats 1000000 in
theorem gateOfR_range (f s lo hi : Int) (w : World) (h : ¬ (inB lo (-1000000000000) 1000000000000 = true ∧ inB hi (-1000000000000) 1000000000000 = true)) : Calls Try.prog 80 #[.agg #[.int .i64 f, .int .i64 s], .agg #[.int .i64 lo, .int .i64 hi]] w fun e w' => e = .returned (.tuple #[.agg #[.int .i64 0, .int .i64 0], .int .i64 2]) ∧ Below w.heap.size w w' := by
  have K1 := Lib.hid (fun W => timeErrR_any lo W)
  have K2 := Lib.hid (fun W => timeErrR_any hi W)
  cases h1 : inB lo (-1000000000000) 1000000000000
  all_goals cases h2 : inB hi (-1000000000000) 1000000000000
  case true.true => exact absurd ⟨h1, h2⟩ h
  all_goals
    rw [h1] at K1
    rw [h2] at K2
    simp only [unl, Bool.false_eq_true, if_false, if_true] at K1 K2
    clear h h1 h2
    go_enter Try.func80, Try.ntmps80
    go_wp2_with fail
    refine (K1.out _).mono ?_
    rintro e w' ⟨rfl, rfl⟩
    go_wp2_with fail
    (try (refine (K2.out _).mono ?_; rintro e w' ⟨rfl, rfl⟩))
    go_wp2
    refine bodyPost_ret (by simp [results, Try.results80, go_sem, *]; rfl) rfl ?_
    exact ⟨rfl, by (repeat' (first | (with_reducible exact Below.refl _ _) | (with_reducible assumption) | (with_reducible refine Below.alloc ?_ ?_ _) | (with_reducible refine Below.drew ?_) | (with_reducible refine below_drewN ?_ _) | (with_reducible refine Below.setCell ?_ ?_ _) | (with_reducible refine below_step (by with_reducible assumption) ?_ ?_) | (with_reducible exact Below.size (by with_reducible assumption)) | go_size))⟩
set_option maxRecDepth 100000 in
set_option maxHeartbeats 1000000 in
theorem gateOfR_order (f s lo hi : Int) (w : World) (h : inB lo (-1000000000000) 1000000000000 = true ∧ inB hi (-1000000000000) 1000000000000 = true) (hl : hi < lo) : Calls Try.prog 80 #[.agg #[.int .i64 f, .int .i64 s], .agg #[.int .i64 lo, .int .i64 hi]] w fun e w' => e = .returned (.tuple #[.agg #[.int .i64 0, .int .i64 0], .int .i64 9]) ∧ Below w.heap.size w w' := by
  have K1 := Lib.hid (fun W => timeErrR_any lo W)
  have K2 := Lib.hid (fun W => timeErrR_any hi W)
  rw [h.1] at K1
  rw [h.2] at K2
  simp only [unl, if_true] at K1 K2
  clear h
  go_enter Try.func80, Try.ntmps80
  go_wp2_with fail
  refine (K1.out _).mono ?_
  rintro e w' ⟨rfl, rfl⟩
  go_wp2_with fail
  refine (K2.out _).mono ?_
  rintro e w' ⟨rfl, rfl⟩
  go_wp2
  refine bodyPost_ret (by simp [results, Try.results80, go_sem, *]; rfl) rfl ?_
  exact ⟨rfl, by (repeat' (first | (with_reducible exact Below.refl _ _) | (with_reducible assumption) | (with_reducible refine Below.alloc ?_ ?_ _) | (with_reducible refine Below.drew ?_) | (with_reducible refine below_drewN ?_ _) | (with_reducible refine Below.setCell ?_ ?_ _) | (with_reducible refine below_step (by with_reducible assumption) ?_ ?_) | (with_reducible exact Below.size (by with_reducible assumption)) | go_size))⟩
end Go.Proofs.Ythgnemkfaiejbaa
