/-
  THE SINE SQUARED of the reference: CriticalSquare, BehindSquare.
-/
import Derived.Test.YtegdokmgplancaaRefAngle
import Derived.Test.YtegdokmgplancaaRefDir
import Derived.Test.YtegdokmgplancaaRaySnellT
set_option linter.unusedVariables false
set_option linter.unusedSimpArgs false
namespace Go.Proofs.Ytegdokmgplancaa
open Go.RowKit

set_option maxRecDepth 100000 in
set_option maxHeartbeats 400000 in
theorem refCritical_none (f s : Int) (w : World) (h : ¬ f < s) :
    Calls Try.prog 67 #[.int .i64 f, .int .i64 s] w fun e w' => e = .returned (.tuple #[.agg #[.int .i64 0, .int .i64 0], .int .i64 12]) ∧ Below w.heap.size w w' := by
  go_enter Try.func67, Try.ntmps67
  go_wp2
  refine bodyPost_ret (by simp [results, Try.results67, go_sem, *]; rfl) rfl ?_
  exact ⟨rfl, by (repeat' (first | (with_reducible exact Below.refl _ _) | (with_reducible assumption) | (with_reducible refine Below.alloc ?_ ?_ _) | (with_reducible refine Below.drew ?_) | (with_reducible refine below_drewN ?_ _) | (with_reducible refine Below.setCell ?_ ?_ _) | (with_reducible refine below_step (by with_reducible assumption) ?_ ?_) | (with_reducible exact Below.size (by with_reducible assumption)) | go_size))⟩
set_option maxRecDepth 100000 in
set_option maxHeartbeats 400000 in
theorem refCritical_ok (f s : Int) (w : World) (h : f < s) (hf : 500 ≤ f ∧ f ≤ 10000) (hs : 500 ≤ s ∧ s ≤ 10000) :
    Calls Try.prog 67 #[.int .i64 f, .int .i64 s] w fun e w' => e = .returned (.tuple #[.agg #[.int .i64 (crN f s), .int .i64 (crD f s)], .int .i64 0]) ∧ Below w.heap.size w w' := by
  have f1 : 1 * 1 ≤ f * f := sq_mono (by omega) (by omega)
  have f2 : f * f ≤ 10000 * 10000 := sq_mono (by omega) (by omega)
  have s1 : 1 * 1 ≤ s * s := sq_mono (by omega) (by omega)
  have s2 : s * s ≤ 10000 * 10000 := sq_mono (by omega) (by omega)
  have K := Lib.hid (fun W => blowest_any (f * f) (s * s) W (by omega) (by omega))
  go_enter Try.func67, Try.ntmps67
  go_wp2_with fail; (refine (K.out _).mono ?_; rintro e w1 ⟨rfl, hw1⟩; obtain ⟨hcw1, hfw1, hlw1, hmw1, hnw1⟩ := bcell3 hw1; have hzw1 := hw1.size; (try simp only [World.size_alloc, World.size_setCell, World.size_drew, size_drewN] at hzw1))
  have r1_0 : w1.cell? ⟨w.heap.size, 0, none⟩ = some (.int .i64 0) := (hcw1 (w.heap.size) 0 (by first | omega | (simp only [World.size_alloc, World.size_drew, World.size_setCell, size_drewN]; omega))).trans (by simp [go_sem, *]); have p1_0 : w1.frozen? ⟨w.heap.size, 0, none⟩ = false := (hfw1 (w.heap.size) 0 (by first | omega | (simp only [World.size_alloc, World.size_drew, World.size_setCell, size_drewN]; omega))).trans (by simp [go_sem, *]); have r1_1 : w1.cell? ⟨w.heap.size, 1, none⟩ = some (.int .i64 0) := (hcw1 (w.heap.size) 1 (by first | omega | (simp only [World.size_alloc, World.size_drew, World.size_setCell, size_drewN]; omega))).trans (by simp [go_sem, *]); have p1_1 : w1.frozen? ⟨w.heap.size, 1, none⟩ = false := (hfw1 (w.heap.size) 1 (by first | omega | (simp only [World.size_alloc, World.size_drew, World.size_setCell, size_drewN]; omega))).trans (by simp [go_sem, *]); have o1 : w.heap.size < w1.heap.size := (by omega)
  go_wp2
  refine bodyPost_ret (by simp [results, Try.results67, go_sem, *]; rfl) rfl ?_
  exact ⟨rfl, by (repeat' (first | (with_reducible exact Below.refl _ _) | (with_reducible assumption) | (with_reducible refine Below.alloc ?_ ?_ _) | (with_reducible refine Below.drew ?_) | (with_reducible refine below_drewN ?_ _) | (with_reducible refine Below.setCell ?_ ?_ _) | (with_reducible refine below_step (by with_reducible assumption) ?_ ?_) | (with_reducible exact Below.size (by with_reducible assumption)) | go_size))⟩
set_option maxRecDepth 100000 in
set_option maxHeartbeats 400000 in
theorem refBehind_none (a b f s : Int) (w : World) (h : okA a b f s) (hp : ¬ bN a s ≤ bD a b f) :
    Calls Try.prog 69 #[.agg #[.int .i64 a, .int .i64 b], .int .i64 f, .int .i64 s] w fun e w' => e = .returned (.tuple #[.agg #[.int .i64 0, .int .i64 0], .int .i64 12]) ∧ Below w.heap.size w w' := by
  have K1 : ∀ W, _ := fun W => refPasses_any a b f s W h
  rw [decide_eq_false hp] at K1
  have H1 := Lib.hid K1
  clear K1 h hp
  go_enter Try.func69, Try.ntmps69
  go_wp2_with fail; (refine (H1.out _).mono ?_; rintro e w1 ⟨rfl, hw1⟩; obtain ⟨hcw1, hfw1, hlw1, hmw1, hnw1⟩ := bcell3 hw1; have hzw1 := hw1.size; (try simp only [World.size_alloc, World.size_setCell, World.size_drew, size_drewN] at hzw1))
  have r1_0 : w1.cell? ⟨w.heap.size + 1, 0, none⟩ = some (.int .i64 0) := (hcw1 (w.heap.size + 1) 0 (by first | omega | (simp only [World.size_alloc, World.size_drew, World.size_setCell, size_drewN]; omega))).trans (by simp [go_sem, *]); have p1_0 : w1.frozen? ⟨w.heap.size + 1, 0, none⟩ = false := (hfw1 (w.heap.size + 1) 0 (by first | omega | (simp only [World.size_alloc, World.size_drew, World.size_setCell, size_drewN]; omega))).trans (by simp [go_sem, *]); have r1_1 : w1.cell? ⟨w.heap.size + 1, 1, none⟩ = some (.int .i64 0) := (hcw1 (w.heap.size + 1) 1 (by first | omega | (simp only [World.size_alloc, World.size_drew, World.size_setCell, size_drewN]; omega))).trans (by simp [go_sem, *]); have p1_1 : w1.frozen? ⟨w.heap.size + 1, 1, none⟩ = false := (hfw1 (w.heap.size + 1) 1 (by first | omega | (simp only [World.size_alloc, World.size_drew, World.size_setCell, size_drewN]; omega))).trans (by simp [go_sem, *]); have o1 : w.heap.size + 1 < w1.heap.size := (by omega)
  go_wp2
  refine bodyPost_ret (by simp [results, Try.results69, go_sem, *]; rfl) rfl ?_
  exact ⟨rfl, by (repeat' (first | (with_reducible exact Below.refl _ _) | (with_reducible assumption) | (with_reducible refine Below.alloc ?_ ?_ _) | (with_reducible refine Below.drew ?_) | (with_reducible refine below_drewN ?_ _) | (with_reducible refine Below.setCell ?_ ?_ _) | (with_reducible refine below_step (by with_reducible assumption) ?_ ?_) | (with_reducible exact Below.size (by with_reducible assumption)) | go_size))⟩
set_option maxRecDepth 100000 in
set_option maxHeartbeats 1000000 in
theorem refBehind_ok (a b f s : Int) (w : World) (h : okA a b f s) (hp : bN a s ≤ bD a b f) :
    Calls Try.prog 69 #[.agg #[.int .i64 a, .int .i64 b], .int .i64 f, .int .i64 s] w fun e w' => e = .returned (.tuple #[.agg #[.int .i64 (sqN a b f s), .int .i64 (sqD a b f s)], .int .i64 (sqE a b f s)]) ∧ Below w.heap.size w w' := by
  obtain ⟨h1, h2, h3, h4, h5, h6⟩ := b_bd h
  obtain ⟨-, m2, m3⟩ := back_math h
  have e : bD a b f = f * f * (a * a + b * b) := by unfold bD; grind
  have f1 : 0 ≤ f * f ∧ f * f ≤ 10000 * 10000 := ⟨sq_nonneg f, sqle ⟨by have := h.2.1; omega, h.2.1.2⟩⟩
  have K1 : ∀ W, _ := fun W => refPasses_any a b f s W h
  rw [decide_eq_true hp] at K1
  have H1 := Lib.hid K1
  have K2 : ∀ W, Calls Try.prog 111 #[.int .i64 (bN a s), .int .i64 (bD a b f)] W fun e w' => e = .returned (.agg #[.int .i64 (sN a b f s), .int .i64 (sD a b f s)]) ∧ Below W.heap.size W w' := fun W => blowest_any (bN a s) (bD a b f) W (by omega) (by omega)
  rw [e, show bN a s = a * a * s * s from rfl] at K2
  have H2 := Lib.hid K2
  rw [e] at h6
  unfold bN at h4
  have E1 := Lib.hid (show sqE a b f s = if sN a b f s ≤ 1000000000 ∧ sD a b f s ≤ 1000000000 then 0 else 8 from rfl)
  have E2 := Lib.hid (show sqN a b f s = if sN a b f s ≤ 1000000000 ∧ sD a b f s ≤ 1000000000 then sN a b f s else 0 from rfl)
  have E3 := Lib.hid (show sqD a b f s = if sN a b f s ≤ 1000000000 ∧ sD a b f s ≤ 1000000000 then sD a b f s else 0 from rfl)
  clear K1 K2 h hp e
  generalize sN a b f s = x at *
  generalize sD a b f s = y at *
  by_cases hc : x ≤ 1000000000 ∧ y ≤ 1000000000
  · have E1 := Lib.hid (E1.out.trans (if_pos hc))
    have E2 := Lib.hid (E2.out.trans (if_pos hc))
    have E3 := Lib.hid (E3.out.trans (if_pos hc))
    have K3 : ∀ W, _ := fun W => isSmall_any x y W
    rw [show (inB x (-1000000000) 1000000000 && inB y 1 1000000000) = true by simp [inB]; omega] at K3
    have H3 := Lib.hid K3
    clear K3 hc
    go_enter Try.func69, Try.ntmps69
    go_wp2_with fail; (refine (H1.out _).mono ?_; rintro e w1 ⟨rfl, hw1⟩; obtain ⟨hcw1, hfw1, hlw1, hmw1, hnw1⟩ := bcell3 hw1; have hzw1 := hw1.size; (try simp only [World.size_alloc, World.size_setCell, World.size_drew, size_drewN] at hzw1))
    have r1_0 : w1.cell? ⟨w.heap.size + 1, 0, none⟩ = some (.int .i64 0) := (hcw1 (w.heap.size + 1) 0 (by first | omega | (simp only [World.size_alloc, World.size_drew, World.size_setCell, size_drewN]; omega))).trans (by simp [go_sem, *]); have p1_0 : w1.frozen? ⟨w.heap.size + 1, 0, none⟩ = false := (hfw1 (w.heap.size + 1) 0 (by first | omega | (simp only [World.size_alloc, World.size_drew, World.size_setCell, size_drewN]; omega))).trans (by simp [go_sem, *]); have r1_1 : w1.cell? ⟨w.heap.size + 1, 1, none⟩ = some (.int .i64 0) := (hcw1 (w.heap.size + 1) 1 (by first | omega | (simp only [World.size_alloc, World.size_drew, World.size_setCell, size_drewN]; omega))).trans (by simp [go_sem, *]); have p1_1 : w1.frozen? ⟨w.heap.size + 1, 1, none⟩ = false := (hfw1 (w.heap.size + 1) 1 (by first | omega | (simp only [World.size_alloc, World.size_drew, World.size_setCell, size_drewN]; omega))).trans (by simp [go_sem, *]); have o1 : w.heap.size + 1 < w1.heap.size := (by omega)
    have ca1_0 : w1.cell? ⟨w.heap.size, 0, none⟩ = some (.int .i64 (a)) := (hcw1 (w.heap.size) 0 (by first | omega | (simp only [World.size_alloc, World.size_drew, World.size_setCell, size_drewN]; omega))).trans (by simp [go_sem, *]); have ca1_1 : w1.cell? ⟨w.heap.size, 1, none⟩ = some (.int .i64 (b)) := (hcw1 (w.heap.size) 1 (by first | omega | (simp only [World.size_alloc, World.size_drew, World.size_setCell, size_drewN]; omega))).trans (by simp [go_sem, *]); have oa1 : w.heap.size < w1.heap.size := (by omega)
    go_wp2_with fail; (refine (H2.out _).mono ?_; rintro e w2 ⟨rfl, hw2⟩; obtain ⟨hcw2, hfw2, hlw2, hmw2, hnw2⟩ := bcell3 hw2; have hzw2 := hw2.size; (try simp only [World.size_alloc, World.size_setCell, World.size_drew, size_drewN] at hzw2))
    have r2_0 : w2.cell? ⟨w.heap.size + 1, 0, none⟩ = some (.int .i64 0) := (hcw2 (w.heap.size + 1) 0 (by first | omega | (simp only [World.size_alloc, World.size_drew, World.size_setCell, size_drewN]; omega))).trans (by simp [go_sem, *]); have p2_0 : w2.frozen? ⟨w.heap.size + 1, 0, none⟩ = false := (hfw2 (w.heap.size + 1) 0 (by first | omega | (simp only [World.size_alloc, World.size_drew, World.size_setCell, size_drewN]; omega))).trans (by simp [go_sem, *]); have r2_1 : w2.cell? ⟨w.heap.size + 1, 1, none⟩ = some (.int .i64 0) := (hcw2 (w.heap.size + 1) 1 (by first | omega | (simp only [World.size_alloc, World.size_drew, World.size_setCell, size_drewN]; omega))).trans (by simp [go_sem, *]); have p2_1 : w2.frozen? ⟨w.heap.size + 1, 1, none⟩ = false := (hfw2 (w.heap.size + 1) 1 (by first | omega | (simp only [World.size_alloc, World.size_drew, World.size_setCell, size_drewN]; omega))).trans (by simp [go_sem, *]); have o2 : w.heap.size + 1 < w2.heap.size := (by omega)
    go_wp2_with fail; (refine (H3.out _).mono ?_; rintro e w3 ⟨rfl, hw3⟩; obtain ⟨hcw3, hfw3, hlw3, hmw3, hnw3⟩ := bcell3 hw3; have hzw3 := hw3.size; (try simp only [World.size_alloc, World.size_setCell, World.size_drew, size_drewN] at hzw3))
    have r3_0 : w3.cell? ⟨w.heap.size + 1, 0, none⟩ = some (.int .i64 0) := (hcw3 (w.heap.size + 1) 0 (by first | omega | (simp only [World.size_alloc, World.size_drew, World.size_setCell, size_drewN]; omega))).trans (by simp [go_sem, *]); have p3_0 : w3.frozen? ⟨w.heap.size + 1, 0, none⟩ = false := (hfw3 (w.heap.size + 1) 0 (by first | omega | (simp only [World.size_alloc, World.size_drew, World.size_setCell, size_drewN]; omega))).trans (by simp [go_sem, *]); have r3_1 : w3.cell? ⟨w.heap.size + 1, 1, none⟩ = some (.int .i64 0) := (hcw3 (w.heap.size + 1) 1 (by first | omega | (simp only [World.size_alloc, World.size_drew, World.size_setCell, size_drewN]; omega))).trans (by simp [go_sem, *]); have p3_1 : w3.frozen? ⟨w.heap.size + 1, 1, none⟩ = false := (hfw3 (w.heap.size + 1) 1 (by first | omega | (simp only [World.size_alloc, World.size_drew, World.size_setCell, size_drewN]; omega))).trans (by simp [go_sem, *]); have o3 : w.heap.size + 1 < w3.heap.size := (by omega)
    have cb3_0 : w3.cell? ⟨w2.heap.size, 0, none⟩ = some (.int .i64 (x)) := (hcw3 (w2.heap.size) 0 (by first | omega | (simp only [World.size_alloc, World.size_drew, World.size_setCell, size_drewN]; omega))).trans (by simp [go_sem, *]); have cb3_1 : w3.cell? ⟨w2.heap.size, 1, none⟩ = some (.int .i64 (y)) := (hcw3 (w2.heap.size) 1 (by first | omega | (simp only [World.size_alloc, World.size_drew, World.size_setCell, size_drewN]; omega))).trans (by simp [go_sem, *]); have ob3 : w2.heap.size < w3.heap.size := (by omega)
    go_wp2
    refine bodyPost_ret (by simp [results, Try.results69, go_sem, *]; rfl) rfl ?_
    exact ⟨by rw [E1.out, E2.out, E3.out], by (repeat' (first | (with_reducible exact Below.refl _ _) | (with_reducible assumption) | (with_reducible refine Below.alloc ?_ ?_ _) | (with_reducible refine Below.drew ?_) | (with_reducible refine below_drewN ?_ _) | (with_reducible refine Below.setCell ?_ ?_ _) | (with_reducible refine below_step (by with_reducible assumption) ?_ ?_) | (with_reducible exact Below.size (by with_reducible assumption)) | go_size))⟩
  · have E1 := Lib.hid (E1.out.trans (if_neg hc))
    have E2 := Lib.hid (E2.out.trans (if_neg hc))
    have E3 := Lib.hid (E3.out.trans (if_neg hc))
    have K3 : ∀ W, _ := fun W => isSmall_any x y W
    rw [show (inB x (-1000000000) 1000000000 && inB y 1 1000000000) = false by simp [inB]; omega] at K3
    have H3 := Lib.hid K3
    clear K3 hc
    go_enter Try.func69, Try.ntmps69
    go_wp2_with fail; (refine (H1.out _).mono ?_; rintro e w1 ⟨rfl, hw1⟩; obtain ⟨hcw1, hfw1, hlw1, hmw1, hnw1⟩ := bcell3 hw1; have hzw1 := hw1.size; (try simp only [World.size_alloc, World.size_setCell, World.size_drew, size_drewN] at hzw1))
    have r1_0 : w1.cell? ⟨w.heap.size + 1, 0, none⟩ = some (.int .i64 0) := (hcw1 (w.heap.size + 1) 0 (by first | omega | (simp only [World.size_alloc, World.size_drew, World.size_setCell, size_drewN]; omega))).trans (by simp [go_sem, *]); have p1_0 : w1.frozen? ⟨w.heap.size + 1, 0, none⟩ = false := (hfw1 (w.heap.size + 1) 0 (by first | omega | (simp only [World.size_alloc, World.size_drew, World.size_setCell, size_drewN]; omega))).trans (by simp [go_sem, *]); have r1_1 : w1.cell? ⟨w.heap.size + 1, 1, none⟩ = some (.int .i64 0) := (hcw1 (w.heap.size + 1) 1 (by first | omega | (simp only [World.size_alloc, World.size_drew, World.size_setCell, size_drewN]; omega))).trans (by simp [go_sem, *]); have p1_1 : w1.frozen? ⟨w.heap.size + 1, 1, none⟩ = false := (hfw1 (w.heap.size + 1) 1 (by first | omega | (simp only [World.size_alloc, World.size_drew, World.size_setCell, size_drewN]; omega))).trans (by simp [go_sem, *]); have o1 : w.heap.size + 1 < w1.heap.size := (by omega)
    have ca1_0 : w1.cell? ⟨w.heap.size, 0, none⟩ = some (.int .i64 (a)) := (hcw1 (w.heap.size) 0 (by first | omega | (simp only [World.size_alloc, World.size_drew, World.size_setCell, size_drewN]; omega))).trans (by simp [go_sem, *]); have ca1_1 : w1.cell? ⟨w.heap.size, 1, none⟩ = some (.int .i64 (b)) := (hcw1 (w.heap.size) 1 (by first | omega | (simp only [World.size_alloc, World.size_drew, World.size_setCell, size_drewN]; omega))).trans (by simp [go_sem, *]); have oa1 : w.heap.size < w1.heap.size := (by omega)
    go_wp2_with fail; (refine (H2.out _).mono ?_; rintro e w2 ⟨rfl, hw2⟩; obtain ⟨hcw2, hfw2, hlw2, hmw2, hnw2⟩ := bcell3 hw2; have hzw2 := hw2.size; (try simp only [World.size_alloc, World.size_setCell, World.size_drew, size_drewN] at hzw2))
    have r2_0 : w2.cell? ⟨w.heap.size + 1, 0, none⟩ = some (.int .i64 0) := (hcw2 (w.heap.size + 1) 0 (by first | omega | (simp only [World.size_alloc, World.size_drew, World.size_setCell, size_drewN]; omega))).trans (by simp [go_sem, *]); have p2_0 : w2.frozen? ⟨w.heap.size + 1, 0, none⟩ = false := (hfw2 (w.heap.size + 1) 0 (by first | omega | (simp only [World.size_alloc, World.size_drew, World.size_setCell, size_drewN]; omega))).trans (by simp [go_sem, *]); have r2_1 : w2.cell? ⟨w.heap.size + 1, 1, none⟩ = some (.int .i64 0) := (hcw2 (w.heap.size + 1) 1 (by first | omega | (simp only [World.size_alloc, World.size_drew, World.size_setCell, size_drewN]; omega))).trans (by simp [go_sem, *]); have p2_1 : w2.frozen? ⟨w.heap.size + 1, 1, none⟩ = false := (hfw2 (w.heap.size + 1) 1 (by first | omega | (simp only [World.size_alloc, World.size_drew, World.size_setCell, size_drewN]; omega))).trans (by simp [go_sem, *]); have o2 : w.heap.size + 1 < w2.heap.size := (by omega)
    go_wp2_with fail; (refine (H3.out _).mono ?_; rintro e w3 ⟨rfl, hw3⟩; obtain ⟨hcw3, hfw3, hlw3, hmw3, hnw3⟩ := bcell3 hw3; have hzw3 := hw3.size; (try simp only [World.size_alloc, World.size_setCell, World.size_drew, size_drewN] at hzw3))
    have r3_0 : w3.cell? ⟨w.heap.size + 1, 0, none⟩ = some (.int .i64 0) := (hcw3 (w.heap.size + 1) 0 (by first | omega | (simp only [World.size_alloc, World.size_drew, World.size_setCell, size_drewN]; omega))).trans (by simp [go_sem, *]); have p3_0 : w3.frozen? ⟨w.heap.size + 1, 0, none⟩ = false := (hfw3 (w.heap.size + 1) 0 (by first | omega | (simp only [World.size_alloc, World.size_drew, World.size_setCell, size_drewN]; omega))).trans (by simp [go_sem, *]); have r3_1 : w3.cell? ⟨w.heap.size + 1, 1, none⟩ = some (.int .i64 0) := (hcw3 (w.heap.size + 1) 1 (by first | omega | (simp only [World.size_alloc, World.size_drew, World.size_setCell, size_drewN]; omega))).trans (by simp [go_sem, *]); have p3_1 : w3.frozen? ⟨w.heap.size + 1, 1, none⟩ = false := (hfw3 (w.heap.size + 1) 1 (by first | omega | (simp only [World.size_alloc, World.size_drew, World.size_setCell, size_drewN]; omega))).trans (by simp [go_sem, *]); have o3 : w.heap.size + 1 < w3.heap.size := (by omega)
    go_wp2
    refine bodyPost_ret (by simp [results, Try.results69, go_sem, *]; rfl) rfl ?_
    exact ⟨by rw [E1.out, E2.out, E3.out], by (repeat' (first | (with_reducible exact Below.refl _ _) | (with_reducible assumption) | (with_reducible refine Below.alloc ?_ ?_ _) | (with_reducible refine Below.drew ?_) | (with_reducible refine below_drewN ?_ _) | (with_reducible refine Below.setCell ?_ ?_ _) | (with_reducible refine below_step (by with_reducible assumption) ?_ ?_) | (with_reducible exact Below.size (by with_reducible assumption)) | go_size))⟩
end Go.Proofs.Ytegdokmgplancaa
