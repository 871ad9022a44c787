/-
  CrossOf of package ray, with its errors.
-/
import Derived.Test.YtpphnnbijmoodaaMode
set_option linter.unusedVariables false
set_option linter.unusedSimpArgs false
namespace Go.Proofs.Ytpphnnbijmoodaa
open Go.RowKit

/-- the error of a mode and a way -/
def gE (m : Md) (fx fz tx tz : Int) : Int := frst [mE m, wE m fx fz tx tz]
theorem gE_zero {m : Md} {fx fz tx tz : Int} : gE m fx fz tx tz = 0 ↔ okM m ∧ okW m fx fz tx tz := by
  unfold gE
  rw [frst_zero]
  simp only [List.mem_cons, List.not_mem_nil, or_false, forall_eq_or_imp, forall_eq, mE_zero, wE_zero]

set_option maxRecDepth 100000 in
set_option maxHeartbeats 2000000 in
theorem CrossOf_ok (m : Md) (fx fz tx tz : Int) (w : World) (h : okM m) (hw : okW m fx fz tx tz) :
    Calls Try.prog 45 #[.agg #[.int .i64 m.Wedge, .int .i64 m.Metal, .int .i64 m.Skips, .int .i64 m.Thick], .agg #[.int .i64 fx, .int .i64 fz], .agg #[.int .i64 tx, .int .i64 tz]] w fun e w' => e = .returned (.tuple #[.agg #[.int .i64 fx, .int .i64 (-fz), .int .i64 m.Wedge, .int .i64 tx, .int .i64 (unf m tz), .int .i64 m.Metal], .int .i64 0]) ∧ Below w.heap.size w w' := by
  have K1 := Lib.hid (fun W => checkMode_any m W)
  have K2 := Lib.hid (fun W => wayError_any m fx fz tx tz W)
  have K3 := Lib.hid (fun W => crossOf_any m fx fz tx tz W h hw)
  rw [mE_zero.2 h] at K1
  rw [wE_zero.2 hw] at K2
  have HE := Lib.hid (show frst [0, 0] = 0 from rfl)
  go_enter Try.func45, Try.ntmps45
  go_wp2
  go_region_held3 (fun w' => w'.cell? ⟨w.heap.size, 0, none⟩ = some (.int .i64 m.Wedge) ∧ w'.cell? ⟨w.heap.size, 1, none⟩ = some (.int .i64 m.Metal) ∧ w'.cell? ⟨w.heap.size, 2, none⟩ = some (.int .i64 m.Skips) ∧ w'.cell? ⟨w.heap.size, 3, none⟩ = some (.int .i64 m.Thick) ∧ w'.cell? ⟨w.heap.size + 1, 0, none⟩ = some (.int .i64 fx) ∧ w'.cell? ⟨w.heap.size + 1, 1, none⟩ = some (.int .i64 fz) ∧ w'.cell? ⟨w.heap.size + 1 + 1, 0, none⟩ = some (.int .i64 tx) ∧ w'.cell? ⟨w.heap.size + 1 + 1, 1, none⟩ = some (.int .i64 tz)) (first | (go_keep; done) | (simp [*, go_sem]; done))
    (first
      | (go_at_call 43; ((with_reducible refine (K1.out _).mono ?_); rintro e w1 ⟨rfl, hw1⟩; obtain ⟨hcw1, hfw1, hlw1, hmw1, hnw1⟩ := bcell3 hw1; have hz1 := hw1.size; (try simp only [World.size_drew, World.size_alloc] at hz1); have o0_1 : w.heap.size < w1.heap.size := (by omega); have o1_1 : w.heap.size + 1 < w1.heap.size := (by omega); have o2_1 : w.heap.size + 1 + 1 < w1.heap.size := (by omega); have o3_1 : w.heap.size + 1 + 1 + 1 < w1.heap.size := (by omega)))
      | (go_at_call 99; ((with_reducible refine (K2.out _).mono ?_); rintro e w2 ⟨rfl, hw2⟩; obtain ⟨hcw2, hfw2, hlw2, hmw2, hnw2⟩ := bcell3 hw2; have hz2 := hw2.size; (try simp only [World.size_drew, World.size_alloc] at hz2); have o0_2 : w.heap.size < w2.heap.size := (by omega); have o1_2 : w.heap.size + 1 < w2.heap.size := (by omega); have o2_2 : w.heap.size + 1 + 1 < w2.heap.size := (by omega); have o3_2 : w.heap.size + 1 + 1 + 1 < w2.heap.size := (by omega)))
      | (go_at_call 77; refine (first2 0 0 _ _ (cell_fresh _ _ _ _ _ _ rfl rfl) (cell_fresh _ _ _ _ _ _ rfl rfl)).mono ?_; rw [HE.out]; rintro e w' ⟨rfl, rfl⟩))
  all_goals
    go_wp2_with (go_at_call 100; ((with_reducible refine (K3.out _).mono ?_); rintro e w3 ⟨rfl, hw3⟩; obtain ⟨hcw3, hfw3, hlw3, hmw3, hnw3⟩ := bcell3 hw3; have hz3 := hw3.size; (try simp only [World.size_drew, World.size_alloc] at hz3); have o0_3 : w.heap.size < w3.heap.size := (by omega); have o1_3 : w.heap.size + 1 < w3.heap.size := (by omega); have o2_3 : w.heap.size + 1 + 1 < w3.heap.size := (by omega); have o3_3 : w.heap.size + 1 + 1 + 1 < w3.heap.size := (by omega)))
    go_wp2
    refine bodyPost_ret (by simp [results, Try.results45, go_sem, *]; rfl) rfl ?_
    exact ⟨rfl, by (repeat' (first | (with_reducible exact Below.refl _ _) | (with_reducible assumption) | (with_reducible refine Below.alloc ?_ ?_ _) | (with_reducible refine Below.drew ?_) | (with_reducible refine below_drewN ?_ _) | (with_reducible refine Below.setCell ?_ ?_ _) | (with_reducible refine below_step (by with_reducible assumption) ?_ ?_) | (with_reducible exact Below.size (by with_reducible assumption)) | go_size))⟩

set_option maxRecDepth 100000 in
set_option maxHeartbeats 1000000 in
theorem LeastTime_ok (m : Md) (fx fz tx tz : Int) (w : World) (h : okM m) (hw : okW m fx fz tx tz) :
    Calls Try.prog 46 #[.agg #[.int .i64 m.Wedge, .int .i64 m.Metal, .int .i64 m.Skips, .int .i64 m.Thick], .agg #[.int .i64 fx, .int .i64 fz], .agg #[.int .i64 tx, .int .i64 tz]] w fun e w' => e = .returned (.tuple #[.agg #[.int .i64 (lsL (crM m fx fz tx tz)), .int .i64 (lsH (crM m fx fz tx tz))], .int .i64 0]) ∧ Below w.heap.size w w' := by
  have K1 := Lib.hid (fun W => CrossOf_ok m fx fz tx tz W h hw)
  have K2 := Lib.hid (fun W => crossingOf_any (crM m fx fz tx tz) W)
  have K3 := Lib.hid (fun W => leastTime_any (crM m fx fz tx tz) W (okC_of h hw))
  clear h hw
  go_enter Try.func46, Try.ntmps46
  go_wp2_with fail; (refine (K1.out _).mono ?_; rintro e w1 ⟨rfl, hw1⟩; obtain ⟨hcw1, hfw1, hlw1, hmw1, hnw1⟩ := bcell3 hw1; have hzw1 := hw1.size; (try simp only [World.size_alloc, World.size_setCell, World.size_drew, size_drewN] at hzw1))
  have r1_0 : w1.cell? ⟨w.heap.size + 1 + 1 + 1, 0, none⟩ = some (.int .i64 0) := (hcw1 (w.heap.size + 1 + 1 + 1) 0 (by first | omega | (simp only [World.size_alloc, World.size_drew, World.size_setCell, size_drewN]; omega))).trans (by simp [go_sem, *]); have p1_0 : w1.frozen? ⟨w.heap.size + 1 + 1 + 1, 0, none⟩ = false := (hfw1 (w.heap.size + 1 + 1 + 1) 0 (by first | omega | (simp only [World.size_alloc, World.size_drew, World.size_setCell, size_drewN]; omega))).trans (by simp [go_sem, *]); have r1_1 : w1.cell? ⟨w.heap.size + 1 + 1 + 1, 1, none⟩ = some (.int .i64 0) := (hcw1 (w.heap.size + 1 + 1 + 1) 1 (by first | omega | (simp only [World.size_alloc, World.size_drew, World.size_setCell, size_drewN]; omega))).trans (by simp [go_sem, *]); have p1_1 : w1.frozen? ⟨w.heap.size + 1 + 1 + 1, 1, none⟩ = false := (hfw1 (w.heap.size + 1 + 1 + 1) 1 (by first | omega | (simp only [World.size_alloc, World.size_drew, World.size_setCell, size_drewN]; omega))).trans (by simp [go_sem, *]); have o1 : w.heap.size + 1 + 1 + 1 < w1.heap.size := (by omega)
  go_wp2_with fail; (refine (K2.out _).mono ?_; rintro e w2 ⟨rfl, hw2⟩; obtain ⟨hcw2, hfw2, hlw2, hmw2, hnw2⟩ := bcell3 hw2; have hzw2 := hw2.size; (try simp only [World.size_alloc, World.size_setCell, World.size_drew, size_drewN] at hzw2))
  have r2_0 : w2.cell? ⟨w.heap.size + 1 + 1 + 1, 0, none⟩ = some (.int .i64 0) := (hcw2 (w.heap.size + 1 + 1 + 1) 0 (by first | omega | (simp only [World.size_alloc, World.size_drew, World.size_setCell, size_drewN]; omega))).trans (by simp [go_sem, *]); have p2_0 : w2.frozen? ⟨w.heap.size + 1 + 1 + 1, 0, none⟩ = false := (hfw2 (w.heap.size + 1 + 1 + 1) 0 (by first | omega | (simp only [World.size_alloc, World.size_drew, World.size_setCell, size_drewN]; omega))).trans (by simp [go_sem, *]); have r2_1 : w2.cell? ⟨w.heap.size + 1 + 1 + 1, 1, none⟩ = some (.int .i64 0) := (hcw2 (w.heap.size + 1 + 1 + 1) 1 (by first | omega | (simp only [World.size_alloc, World.size_drew, World.size_setCell, size_drewN]; omega))).trans (by simp [go_sem, *]); have p2_1 : w2.frozen? ⟨w.heap.size + 1 + 1 + 1, 1, none⟩ = false := (hfw2 (w.heap.size + 1 + 1 + 1) 1 (by first | omega | (simp only [World.size_alloc, World.size_drew, World.size_setCell, size_drewN]; omega))).trans (by simp [go_sem, *]); have o2 : w.heap.size + 1 + 1 + 1 < w2.heap.size := (by omega)
  go_wp2_with fail; (refine (K3.out _).mono ?_; rintro e w3 ⟨rfl, hw3⟩; obtain ⟨hcw3, hfw3, hlw3, hmw3, hnw3⟩ := bcell3 hw3; have hzw3 := hw3.size; (try simp only [World.size_alloc, World.size_setCell, World.size_drew, size_drewN] at hzw3))
  have r3_0 : w3.cell? ⟨w.heap.size + 1 + 1 + 1, 0, none⟩ = some (.int .i64 0) := (hcw3 (w.heap.size + 1 + 1 + 1) 0 (by first | omega | (simp only [World.size_alloc, World.size_drew, World.size_setCell, size_drewN]; omega))).trans (by simp [go_sem, *]); have p3_0 : w3.frozen? ⟨w.heap.size + 1 + 1 + 1, 0, none⟩ = false := (hfw3 (w.heap.size + 1 + 1 + 1) 0 (by first | omega | (simp only [World.size_alloc, World.size_drew, World.size_setCell, size_drewN]; omega))).trans (by simp [go_sem, *]); have r3_1 : w3.cell? ⟨w.heap.size + 1 + 1 + 1, 1, none⟩ = some (.int .i64 0) := (hcw3 (w.heap.size + 1 + 1 + 1) 1 (by first | omega | (simp only [World.size_alloc, World.size_drew, World.size_setCell, size_drewN]; omega))).trans (by simp [go_sem, *]); have p3_1 : w3.frozen? ⟨w.heap.size + 1 + 1 + 1, 1, none⟩ = false := (hfw3 (w.heap.size + 1 + 1 + 1) 1 (by first | omega | (simp only [World.size_alloc, World.size_drew, World.size_setCell, size_drewN]; omega))).trans (by simp [go_sem, *]); have o3 : w.heap.size + 1 + 1 + 1 < w3.heap.size := (by omega)
  go_wp2
  refine bodyPost_ret (by simp [results, Try.results46, go_sem, *]; rfl) rfl ?_
  exact ⟨rfl, by (repeat' (first | (with_reducible exact Below.refl _ _) | (with_reducible assumption) | (with_reducible refine Below.alloc ?_ ?_ _) | (with_reducible refine Below.drew ?_) | (with_reducible refine below_drewN ?_ _) | (with_reducible refine Below.setCell ?_ ?_ _) | (with_reducible refine below_step (by with_reducible assumption) ?_ ?_) | (with_reducible exact Below.size (by with_reducible assumption)) | go_size))⟩
end Go.Proofs.Ytpphnnbijmoodaa
