/-
  TimeOf of package ray; Length and TimeOf of the reference.
-/
import Derived.Test.YtpphnnbijmoodaaLegs
set_option linter.unusedVariables false
set_option linter.unusedSimpArgs false
namespace Go.Proofs.Ytpphnnbijmoodaa
open Go.RowKit

set_option maxRecDepth 100000 in
set_option maxHeartbeats 1000000 in
theorem timeOf_err (ax az bx bz v : Int) (w : World) (h : ¬ tE ax az bx bz v = 0) :
    Calls Try.prog 21 #[.agg #[.int .i64 ax, .int .i64 az], .agg #[.int .i64 bx, .int .i64 bz], .int .i64 v] w fun e w' => e = .returned (.tuple #[.agg #[.int .i64 0, .int .i64 0], .int .i64 (tE ax az bx bz v)]) ∧ Below w.heap.size w w' := by
  have K1 := Lib.hid (fun W => placeError_any ax az W)
  have K2 := Lib.hid (fun W => placeError_any bx bz W)
  have K4 := Lib.hid (fun W => speedError_any v W)
  have hf : frst [spE ax az, spE bx bz, unl (inB v 500 10000) 2] = tE ax az bx bz v := rfl
  generalize tE ax az bx bz v = g at *
  generalize spE ax az = e1 at *
  generalize spE bx bz = e2 at *
  generalize unl (inB v 500 10000) 2 = e3 at *
  have HF := Lib.hid hf
  clear hf
  go_enter Try.func21, Try.ntmps21
  go_wp2
  go_region_held3 (fun w' => w'.cell? ⟨w.heap.size, 0, none⟩ = some (.int .i64 ax) ∧ w'.cell? ⟨w.heap.size, 1, none⟩ = some (.int .i64 az) ∧ w'.cell? ⟨w.heap.size + 1, 0, none⟩ = some (.int .i64 bx) ∧ w'.cell? ⟨w.heap.size + 1, 1, none⟩ = some (.int .i64 bz)) (first | (go_keep; done) | (simp [*, go_sem]; done))
    (first
      | (go_at_call 78; ((with_reducible refine (K1.out _).mono ?_); rintro e w1 ⟨rfl, hw1⟩; obtain ⟨hcw1, hfw1, hlw1, hmw1, hnw1⟩ := bcell3 hw1; have hz1 := hw1.size; (try simp only [World.size_drew, World.size_alloc] at hz1); have o0_1 : w.heap.size < w1.heap.size := (by omega); have o1_1 : w.heap.size + 1 < w1.heap.size := (by omega); have o2_1 : w.heap.size + 1 + 1 < w1.heap.size := (by omega)))
      | (go_at_call 78; ((with_reducible refine (K2.out _).mono ?_); rintro e w2 ⟨rfl, hw2⟩; obtain ⟨hcw2, hfw2, hlw2, hmw2, hnw2⟩ := bcell3 hw2; have hz2 := hw2.size; (try simp only [World.size_drew, World.size_alloc] at hz2); have o0_2 : w.heap.size < w2.heap.size := (by omega); have o1_2 : w.heap.size + 1 < w2.heap.size := (by omega); have o2_2 : w.heap.size + 1 + 1 < w2.heap.size := (by omega)))
      | (go_at_call 80; refine (K4.out _).mono ?_; rintro e w' ⟨rfl, rfl⟩)
      | (go_at_call 77; refine (first3 e1 e2 e3 _ _ (cell_fresh _ _ _ _ _ _ (by simp) rfl) (cell_fresh _ _ _ _ _ _ (by simp) rfl) (cell_fresh _ _ _ _ _ _ (by simp) rfl)).mono ?_; rw [HF.out]; rintro e w' ⟨rfl, rfl⟩))
  all_goals
    have r1_0 : w1.cell? ⟨w.heap.size + 1 + 1, 0, none⟩ = some (.int .i64 0) := (hcw1 (w.heap.size + 1 + 1) 0 (by first | omega | (simp only [World.size_alloc, World.size_drew, World.size_setCell, size_drewN]; omega))).trans (by simp [go_sem, *]); have p1_0 : w1.frozen? ⟨w.heap.size + 1 + 1, 0, none⟩ = false := (hfw1 (w.heap.size + 1 + 1) 0 (by first | omega | (simp only [World.size_alloc, World.size_drew, World.size_setCell, size_drewN]; omega))).trans (by simp [go_sem, *]); have r1_1 : w1.cell? ⟨w.heap.size + 1 + 1, 1, none⟩ = some (.int .i64 0) := (hcw1 (w.heap.size + 1 + 1) 1 (by first | omega | (simp only [World.size_alloc, World.size_drew, World.size_setCell, size_drewN]; omega))).trans (by simp [go_sem, *]); have p1_1 : w1.frozen? ⟨w.heap.size + 1 + 1, 1, none⟩ = false := (hfw1 (w.heap.size + 1 + 1) 1 (by first | omega | (simp only [World.size_alloc, World.size_drew, World.size_setCell, size_drewN]; omega))).trans (by simp [go_sem, *]); have o1 : w.heap.size + 1 + 1 < w1.heap.size := (by omega)
    have r2_0 : w2.cell? ⟨w.heap.size + 1 + 1, 0, none⟩ = some (.int .i64 0) := (hcw2 (w.heap.size + 1 + 1) 0 (by first | omega | (simp only [World.size_alloc, World.size_drew, World.size_setCell, size_drewN]; omega))).trans (by simp [go_sem, *]); have p2_0 : w2.frozen? ⟨w.heap.size + 1 + 1, 0, none⟩ = false := (hfw2 (w.heap.size + 1 + 1) 0 (by first | omega | (simp only [World.size_alloc, World.size_drew, World.size_setCell, size_drewN]; omega))).trans (by simp [go_sem, *]); have r2_1 : w2.cell? ⟨w.heap.size + 1 + 1, 1, none⟩ = some (.int .i64 0) := (hcw2 (w.heap.size + 1 + 1) 1 (by first | omega | (simp only [World.size_alloc, World.size_drew, World.size_setCell, size_drewN]; omega))).trans (by simp [go_sem, *]); have p2_1 : w2.frozen? ⟨w.heap.size + 1 + 1, 1, none⟩ = false := (hfw2 (w.heap.size + 1 + 1) 1 (by first | omega | (simp only [World.size_alloc, World.size_drew, World.size_setCell, size_drewN]; omega))).trans (by simp [go_sem, *]); have o2 : w.heap.size + 1 + 1 < w2.heap.size := (by omega)
    go_wp2
    refine bodyPost_ret (by simp [results, Try.results21, go_sem, *]; rfl) rfl ?_
    exact ⟨rfl, by (repeat' (first | (with_reducible exact Below.refl _ _) | (with_reducible assumption) | (with_reducible refine Below.alloc ?_ ?_ _) | (with_reducible refine Below.drew ?_) | (with_reducible refine below_drewN ?_ _) | (with_reducible refine Below.setCell ?_ ?_ _) | (with_reducible refine below_step (by with_reducible assumption) ?_ ?_) | (with_reducible exact Below.size (by with_reducible assumption)) | go_size))⟩
set_option maxRecDepth 100000 in
set_option maxHeartbeats 1000000 in
theorem timeOf_ok (ax az bx bz v : Int) (w : World) (h1 : spE ax az = 0) (h2 : spE bx bz = 0) (h3 : unl (inB v 500 10000) 2 = 0) :
    Calls Try.prog 21 #[.agg #[.int .i64 ax, .int .i64 az], .agg #[.int .i64 bx, .int .i64 bz], .int .i64 v] w fun e w' => e = .returned (.tuple #[.agg #[.int .i64 (tdn (lLo (bx - ax) (bz - az)) v), .int .i64 (tup (lHi (bx - ax) (bz - az)) v)], .int .i64 0]) ∧ Below w.heap.size w w' := by
  have K1 := Lib.hid (fun W => placeError_any ax az W)
  have K2 := Lib.hid (fun W => placeError_any bx bz W)
  have K3 := Lib.hid (fun W => legTime_any ax az bx bz v W (spB h1).1 (spB h1).2 (spB h2).1 (spB h2).2 (by cases hv : inB v 500 10000 <;> simp [hv, unl] at h3 ⊢))
  have K4 := Lib.hid (fun W => speedError_any v W)
  rw [h1] at K1
  rw [h2] at K2
  rw [h3] at K4
  have HF := Lib.hid (show frst [0, 0, 0] = 0 from rfl)
  clear h1 h2 h3
  go_enter Try.func21, Try.ntmps21
  go_wp2
  go_region_held3 (fun w' => w'.cell? ⟨w.heap.size, 0, none⟩ = some (.int .i64 ax) ∧ w'.cell? ⟨w.heap.size, 1, none⟩ = some (.int .i64 az) ∧ w'.cell? ⟨w.heap.size + 1, 0, none⟩ = some (.int .i64 bx) ∧ w'.cell? ⟨w.heap.size + 1, 1, none⟩ = some (.int .i64 bz)) (first | (go_keep; done) | (simp [*, go_sem]; done))
    (first
      | (go_at_call 78; ((with_reducible refine (K1.out _).mono ?_); rintro e w1 ⟨rfl, hw1⟩; obtain ⟨hcw1, hfw1, hlw1, hmw1, hnw1⟩ := bcell3 hw1; have hz1 := hw1.size; (try simp only [World.size_drew, World.size_alloc] at hz1); have o0_1 : w.heap.size < w1.heap.size := (by omega); have o1_1 : w.heap.size + 1 < w1.heap.size := (by omega); have o2_1 : w.heap.size + 1 + 1 < w1.heap.size := (by omega)))
      | (go_at_call 78; ((with_reducible refine (K2.out _).mono ?_); rintro e w2 ⟨rfl, hw2⟩; obtain ⟨hcw2, hfw2, hlw2, hmw2, hnw2⟩ := bcell3 hw2; have hz2 := hw2.size; (try simp only [World.size_drew, World.size_alloc] at hz2); have o0_2 : w.heap.size < w2.heap.size := (by omega); have o1_2 : w.heap.size + 1 < w2.heap.size := (by omega); have o2_2 : w.heap.size + 1 + 1 < w2.heap.size := (by omega)))
      | (go_at_call 80; refine (K4.out _).mono ?_; rintro e w' ⟨rfl, rfl⟩)
      | (go_at_call 77; refine (first3 0 0 0 _ _ (cell_fresh _ _ _ _ _ _ (by simp) rfl) (cell_fresh _ _ _ _ _ _ (by simp) rfl) (cell_fresh _ _ _ _ _ _ (by simp) rfl)).mono ?_; rw [HF.out]; rintro e w' ⟨rfl, rfl⟩))
  all_goals
    have r1_0 : w1.cell? ⟨w.heap.size + 1 + 1, 0, none⟩ = some (.int .i64 0) := (hcw1 (w.heap.size + 1 + 1) 0 (by first | omega | (simp only [World.size_alloc, World.size_drew, World.size_setCell, size_drewN]; omega))).trans (by simp [go_sem, *]); have p1_0 : w1.frozen? ⟨w.heap.size + 1 + 1, 0, none⟩ = false := (hfw1 (w.heap.size + 1 + 1) 0 (by first | omega | (simp only [World.size_alloc, World.size_drew, World.size_setCell, size_drewN]; omega))).trans (by simp [go_sem, *]); have r1_1 : w1.cell? ⟨w.heap.size + 1 + 1, 1, none⟩ = some (.int .i64 0) := (hcw1 (w.heap.size + 1 + 1) 1 (by first | omega | (simp only [World.size_alloc, World.size_drew, World.size_setCell, size_drewN]; omega))).trans (by simp [go_sem, *]); have p1_1 : w1.frozen? ⟨w.heap.size + 1 + 1, 1, none⟩ = false := (hfw1 (w.heap.size + 1 + 1) 1 (by first | omega | (simp only [World.size_alloc, World.size_drew, World.size_setCell, size_drewN]; omega))).trans (by simp [go_sem, *]); have o1 : w.heap.size + 1 + 1 < w1.heap.size := (by omega)
    have r2_0 : w2.cell? ⟨w.heap.size + 1 + 1, 0, none⟩ = some (.int .i64 0) := (hcw2 (w.heap.size + 1 + 1) 0 (by first | omega | (simp only [World.size_alloc, World.size_drew, World.size_setCell, size_drewN]; omega))).trans (by simp [go_sem, *]); have p2_0 : w2.frozen? ⟨w.heap.size + 1 + 1, 0, none⟩ = false := (hfw2 (w.heap.size + 1 + 1) 0 (by first | omega | (simp only [World.size_alloc, World.size_drew, World.size_setCell, size_drewN]; omega))).trans (by simp [go_sem, *]); have r2_1 : w2.cell? ⟨w.heap.size + 1 + 1, 1, none⟩ = some (.int .i64 0) := (hcw2 (w.heap.size + 1 + 1) 1 (by first | omega | (simp only [World.size_alloc, World.size_drew, World.size_setCell, size_drewN]; omega))).trans (by simp [go_sem, *]); have p2_1 : w2.frozen? ⟨w.heap.size + 1 + 1, 1, none⟩ = false := (hfw2 (w.heap.size + 1 + 1) 1 (by first | omega | (simp only [World.size_alloc, World.size_drew, World.size_setCell, size_drewN]; omega))).trans (by simp [go_sem, *]); have o2 : w.heap.size + 1 + 1 < w2.heap.size := (by omega)
    go_wp2_with fail; (refine (K3.out _).mono ?_; rintro e w3 ⟨rfl, hw3⟩; obtain ⟨hcw3, hfw3, hlw3, hmw3, hnw3⟩ := bcell3 hw3; have hzw3 := hw3.size; (try simp only [World.size_alloc, World.size_setCell, World.size_drew, size_drewN] at hzw3))
    have r3_0 : w3.cell? ⟨w.heap.size + 1 + 1, 0, none⟩ = some (.int .i64 0) := (hcw3 (w.heap.size + 1 + 1) 0 (by first | omega | (simp only [World.size_alloc, World.size_drew, World.size_setCell, size_drewN]; omega))).trans (by simp [go_sem, *]); have p3_0 : w3.frozen? ⟨w.heap.size + 1 + 1, 0, none⟩ = false := (hfw3 (w.heap.size + 1 + 1) 0 (by first | omega | (simp only [World.size_alloc, World.size_drew, World.size_setCell, size_drewN]; omega))).trans (by simp [go_sem, *]); have r3_1 : w3.cell? ⟨w.heap.size + 1 + 1, 1, none⟩ = some (.int .i64 0) := (hcw3 (w.heap.size + 1 + 1) 1 (by first | omega | (simp only [World.size_alloc, World.size_drew, World.size_setCell, size_drewN]; omega))).trans (by simp [go_sem, *]); have p3_1 : w3.frozen? ⟨w.heap.size + 1 + 1, 1, none⟩ = false := (hfw3 (w.heap.size + 1 + 1) 1 (by first | omega | (simp only [World.size_alloc, World.size_drew, World.size_setCell, size_drewN]; omega))).trans (by simp [go_sem, *]); have o3 : w.heap.size + 1 + 1 < w3.heap.size := (by omega)
    go_wp2
    refine bodyPost_ret (by simp [results, Try.results21, go_sem, *]; rfl) rfl ?_
    exact ⟨rfl, by (repeat' (first | (with_reducible exact Below.refl _ _) | (with_reducible assumption) | (with_reducible refine Below.alloc ?_ ?_ _) | (with_reducible refine Below.drew ?_) | (with_reducible refine below_drewN ?_ _) | (with_reducible refine Below.setCell ?_ ?_ _) | (with_reducible refine below_step (by with_reducible assumption) ?_ ?_) | (with_reducible exact Below.size (by with_reducible assumption)) | go_size))⟩

theorem spI {x z : Int} (h : spE x z = 0) : (-100000 ≤ x ∧ x ≤ 100000) ∧ (-100000 ≤ z ∧ z ≤ 100000) := by
  have := spB h
  simpa [inB] using this
set_option maxRecDepth 100000 in
set_option maxHeartbeats 1000000 in
theorem rlength_any (ax az bx bz : Int) (w : World) (h1 : spE ax az = 0) (h2 : spE bx bz = 0) :
    Calls Try.prog 23 #[.agg #[.int .i64 ax, .int .i64 az], .agg #[.int .i64 bx, .int .i64 bz]] w fun e w' => e = .returned (.agg #[.int .i64 (lLo (bx - ax) (bz - az)), .int .i64 (lHi (bx - ax) (bz - az))]) ∧ Below w.heap.size w w' := by
  have s1 := spI h1
  have s2 := spI h2
  have K1 : ∀ W, _ := fun W => rlengthOf_any (ax - bx) (az - bz) W (by omega) (by omega)
  rw [show ax - bx = -(bx - ax) by omega, show az - bz = -(bz - az) by omega, lLo_neg, lLo_neg2, lHi_neg, lHi_neg2, show -(bx - ax) = ax - bx by omega, show -(bz - az) = az - bz by omega] at K1
  have H1 := Lib.hid K1
  clear K1 h1 h2
  go_enter Try.func23, Try.ntmps23
  go_wp2_with fail; (refine (H1.out _).mono ?_; rintro e w1 ⟨rfl, hw1⟩; obtain ⟨hcw1, hfw1, hlw1, hmw1, hnw1⟩ := bcell3 hw1; have hzw1 := hw1.size; (try simp only [World.size_alloc, World.size_setCell, World.size_drew, size_drewN] at hzw1))
  have r1_0 : w1.cell? ⟨w.heap.size + 1 + 1, 0, none⟩ = some (.int .i64 0) := (hcw1 (w.heap.size + 1 + 1) 0 (by first | omega | (simp only [World.size_alloc, World.size_drew, World.size_setCell, size_drewN]; omega))).trans (by simp [go_sem, *]); have p1_0 : w1.frozen? ⟨w.heap.size + 1 + 1, 0, none⟩ = false := (hfw1 (w.heap.size + 1 + 1) 0 (by first | omega | (simp only [World.size_alloc, World.size_drew, World.size_setCell, size_drewN]; omega))).trans (by simp [go_sem, *]); have r1_1 : w1.cell? ⟨w.heap.size + 1 + 1, 1, none⟩ = some (.int .i64 0) := (hcw1 (w.heap.size + 1 + 1) 1 (by first | omega | (simp only [World.size_alloc, World.size_drew, World.size_setCell, size_drewN]; omega))).trans (by simp [go_sem, *]); have p1_1 : w1.frozen? ⟨w.heap.size + 1 + 1, 1, none⟩ = false := (hfw1 (w.heap.size + 1 + 1) 1 (by first | omega | (simp only [World.size_alloc, World.size_drew, World.size_setCell, size_drewN]; omega))).trans (by simp [go_sem, *]); have o1 : w.heap.size + 1 + 1 < w1.heap.size := (by omega)
  go_wp2
  refine bodyPost_ret (by simp [results, Try.results23, go_sem, *]; rfl) rfl ?_
  exact ⟨rfl, by (repeat' (first | (with_reducible exact Below.refl _ _) | (with_reducible assumption) | (with_reducible refine Below.alloc ?_ ?_ _) | (with_reducible refine Below.drew ?_) | (with_reducible refine below_drewN ?_ _) | (with_reducible refine Below.setCell ?_ ?_ _) | (with_reducible refine below_step (by with_reducible assumption) ?_ ?_) | (with_reducible exact Below.size (by with_reducible assumption)) | go_size))⟩
set_option maxRecDepth 100000 in
set_option maxHeartbeats 1000000 in
theorem rtimeOf_any (ax az bx bz v : Int) (w : World) (h1 : spE ax az = 0) (h2 : spE bx bz = 0) (h3 : 500 ≤ v ∧ v ≤ 10000) :
    Calls Try.prog 25 #[.agg #[.int .i64 ax, .int .i64 az], .agg #[.int .i64 bx, .int .i64 bz], .int .i64 v] w fun e w' => e = .returned (.agg #[.int .i64 (tdn (lLo (bx - ax) (bz - az)) v), .int .i64 (tup (lHi (bx - ax) (bz - az)) v)]) ∧ Below w.heap.size w w' := by
  have s1 := spI h1
  have s2 := spI h2
  obtain ⟨r0, r1, r2, r3, r4, r5, -, -⟩ := len_spec (x := bx - ax) (z := bz - az) (by omega) (by omega)
  have K1 := Lib.hid (fun W => rlength_any ax az bx bz W h1 h2)
  have K2 := Lib.hid (fun W => lasting_any (lLo (bx - ax) (bz - az)) (lHi (bx - ax) (bz - az)) v W (by omega) (by omega) h3)
  generalize lLo (bx - ax) (bz - az) = lo at *
  generalize lHi (bx - ax) (bz - az) = hi at *
  clear h1 h2
  go_enter Try.func25, Try.ntmps25
  go_wp2_with fail; (refine (K1.out _).mono ?_; rintro e w1 ⟨rfl, hw1⟩; obtain ⟨hcw1, hfw1, hlw1, hmw1, hnw1⟩ := bcell3 hw1; have hzw1 := hw1.size; (try simp only [World.size_alloc, World.size_setCell, World.size_drew, size_drewN] at hzw1))
  have r1_0 : w1.cell? ⟨w.heap.size + 1 + 1, 0, none⟩ = some (.int .i64 0) := (hcw1 (w.heap.size + 1 + 1) 0 (by first | omega | (simp only [World.size_alloc, World.size_drew, World.size_setCell, size_drewN]; omega))).trans (by simp [go_sem, *]); have p1_0 : w1.frozen? ⟨w.heap.size + 1 + 1, 0, none⟩ = false := (hfw1 (w.heap.size + 1 + 1) 0 (by first | omega | (simp only [World.size_alloc, World.size_drew, World.size_setCell, size_drewN]; omega))).trans (by simp [go_sem, *]); have r1_1 : w1.cell? ⟨w.heap.size + 1 + 1, 1, none⟩ = some (.int .i64 0) := (hcw1 (w.heap.size + 1 + 1) 1 (by first | omega | (simp only [World.size_alloc, World.size_drew, World.size_setCell, size_drewN]; omega))).trans (by simp [go_sem, *]); have p1_1 : w1.frozen? ⟨w.heap.size + 1 + 1, 1, none⟩ = false := (hfw1 (w.heap.size + 1 + 1) 1 (by first | omega | (simp only [World.size_alloc, World.size_drew, World.size_setCell, size_drewN]; omega))).trans (by simp [go_sem, *]); have o1 : w.heap.size + 1 + 1 < w1.heap.size := (by omega)
  go_wp2_with fail; (refine (K2.out _).mono ?_; rintro e w2 ⟨rfl, hw2⟩; obtain ⟨hcw2, hfw2, hlw2, hmw2, hnw2⟩ := bcell3 hw2; have hzw2 := hw2.size; (try simp only [World.size_alloc, World.size_setCell, World.size_drew, size_drewN] at hzw2))
  have r2_0 : w2.cell? ⟨w.heap.size + 1 + 1, 0, none⟩ = some (.int .i64 0) := (hcw2 (w.heap.size + 1 + 1) 0 (by first | omega | (simp only [World.size_alloc, World.size_drew, World.size_setCell, size_drewN]; omega))).trans (by simp [go_sem, *]); have p2_0 : w2.frozen? ⟨w.heap.size + 1 + 1, 0, none⟩ = false := (hfw2 (w.heap.size + 1 + 1) 0 (by first | omega | (simp only [World.size_alloc, World.size_drew, World.size_setCell, size_drewN]; omega))).trans (by simp [go_sem, *]); have r2_1 : w2.cell? ⟨w.heap.size + 1 + 1, 1, none⟩ = some (.int .i64 0) := (hcw2 (w.heap.size + 1 + 1) 1 (by first | omega | (simp only [World.size_alloc, World.size_drew, World.size_setCell, size_drewN]; omega))).trans (by simp [go_sem, *]); have p2_1 : w2.frozen? ⟨w.heap.size + 1 + 1, 1, none⟩ = false := (hfw2 (w.heap.size + 1 + 1) 1 (by first | omega | (simp only [World.size_alloc, World.size_drew, World.size_setCell, size_drewN]; omega))).trans (by simp [go_sem, *]); have o2 : w.heap.size + 1 + 1 < w2.heap.size := (by omega)
  go_wp2
  refine bodyPost_ret (by simp [results, Try.results25, go_sem, *]; rfl) rfl ?_
  exact ⟨rfl, by (repeat' (first | (with_reducible exact Below.refl _ _) | (with_reducible assumption) | (with_reducible refine Below.alloc ?_ ?_ _) | (with_reducible refine Below.drew ?_) | (with_reducible refine below_drewN ?_ _) | (with_reducible refine Below.setCell ?_ ?_ _) | (with_reducible refine below_step (by with_reducible assumption) ?_ ?_) | (with_reducible exact Below.size (by with_reducible assumption)) | go_size))⟩
end Go.Proofs.Ytpphnnbijmoodaa
