/-
  GATES OF TIMES, as the reference tells them where there is no error of the arguments.
-/
import Derived.Test.YthgnemkfaiejbaaTTimesR
set_option linter.unusedVariables false
set_option linter.unusedSimpArgs false
namespace Go.Proofs.Ythgnemkfaiejbaa
open Go.RowKit

set_option maxRecDepth 100000 in
set_option maxHeartbeats 2000000 in
theorem gateOfR_ok (f s lo hi : Int) (w : World) (hs : smE f s = 0) (h : inB lo (-1000000000000) 1000000000000 = true ∧ inB hi (-1000000000000) 1000000000000 = true) (hl : lo ≤ hi) : Calls Try.prog 80 #[.agg #[.int .i64 f, .int .i64 s], .agg #[.int .i64 lo, .int .i64 hi]] w fun e w' => e = .returned (.tuple (if max 0 (cdiv (lo - f) s) ≤ min 60 ((hi - f) / s) then #[.agg #[.int .i64 (max 0 (cdiv (lo - f) s)), .int .i64 (min 60 ((hi - f) / s))], .int .i64 0] else #[.agg #[.int .i64 0, .int .i64 0], .int .i64 12])) ∧ Below w.heap.size w w' := by
  obtain ⟨⟨f0, f1⟩, s0, s1⟩ := smE_ok hs
  have l01 : -1000000000000 ≤ lo ∧ lo ≤ 1000000000000 := of_decide_eq_true h.1
  have u01 : -1000000000000 ≤ hi ∧ hi ≤ 1000000000000 := of_decide_eq_true h.2
  obtain ⟨l0, l1⟩ := l01
  obtain ⟨u0, u1⟩ := u01
  have K1 := Lib.hid (fun W => timeErrR_any lo W)
  have K2 := Lib.hid (fun W => timeErrR_any hi W)
  rw [h.1] at K1
  rw [h.2] at K2
  simp only [unl, if_true] at K1 K2
  have K3 := Lib.hid (fun W => ceil_bel (lo - f) s W (by omega) (by omega) (by omega) (by omega))
  have K4 := Lib.hid (fun W => floor_bel (hi - f) s W (by omega) (by omega) (by omega) (by omega))
  have wr1 : IntKind.i64.wrap (lo - f) = lo - f := IntWalk.i64_in _ (by omega)
  have wr2 : IntKind.i64.wrap (hi - f) = hi - f := IntWalk.i64_in _ (by omega)
  have hgt : decide (hi < lo) = false := decide_eq_false (by omega)
  clear h hs f0 f1 s0 s1 l0 l1 u0 u1 hl
  generalize cdiv (lo - f) s = A at *
  generalize (hi - f) / s = B at *
  go_enter Try.func80, Try.ntmps80
  go_wp2_with fail
  first | refine abs_calls (fun w1 hw1 => ?_) | refine abs_last (fun w1 hw1 => ?_)
  have hw10 : Below w.heap.size w w1 := by rw [hw1]; (repeat' (first | (with_reducible exact Below.refl _ _) | (with_reducible assumption) | (with_reducible refine Below.alloc ?_ ?_ _) | (with_reducible refine Below.drew ?_) | (with_reducible refine below_drewN ?_ _) | (with_reducible refine Below.setCell ?_ ?_ _) | (with_reducible refine below_step (by with_reducible assumption) ?_ ?_) | (with_reducible exact Below.size (by with_reducible assumption)) | go_size))
  have hzz1 := hw10.size
  have cs1_0 : w1.cell? ⟨w.heap.size, 0, none⟩ = some (.int .i64 (f)) := by (first | (rw [hw1]; assumption) | (simp [go_sem, *]; done))
  have cs1_1 : w1.cell? ⟨w.heap.size, 1, none⟩ = some (.int .i64 (s)) := by (first | (rw [hw1]; assumption) | (simp [go_sem, *]; done))
  have ct1_0 : w1.cell? ⟨w.heap.size + 1, 0, none⟩ = some (.int .i64 (lo)) := by (first | (rw [hw1]; assumption) | (simp [go_sem, *]; done))
  have ct1_1 : w1.cell? ⟨w.heap.size + 1, 1, none⟩ = some (.int .i64 (hi)) := by (first | (rw [hw1]; assumption) | (simp [go_sem, *]; done))
  have crz1_0 : w1.cell? ⟨w.heap.size + 1 + 1, 0, none⟩ = some (.int .i64 (0)) := by (first | (rw [hw1]; assumption) | (simp [go_sem, *]; done))
  have prz1_0 : w1.frozen? ⟨w.heap.size + 1 + 1, 0, none⟩ = false := by (first | (rw [hw1]; assumption) | (simp [go_sem, *]; done))
  have crz1_1 : w1.cell? ⟨w.heap.size + 1 + 1, 1, none⟩ = some (.int .i64 (0)) := by (first | (rw [hw1]; assumption) | (simp [go_sem, *]; done))
  have prz1_1 : w1.frozen? ⟨w.heap.size + 1 + 1, 1, none⟩ = false := by (first | (rw [hw1]; assumption) | (simp [go_sem, *]; done))
  have hz10 : w.heap.size < w1.heap.size := by (first | (rw [hw1]; simp; omega) | (rw [hw1]; simp; done) | (rw [hw1]; omega))
  have hz11 : w.heap.size + 1 < w1.heap.size := by (first | (rw [hw1]; simp; omega) | (rw [hw1]; simp; done) | (rw [hw1]; omega))
  have hz12 : w.heap.size + 1 + 1 < w1.heap.size := by (first | (rw [hw1]; simp; omega) | (rw [hw1]; simp; done) | (rw [hw1]; omega))
  clear hw1
  refine (K1.out _).mono ?_
  rintro e w' ⟨rfl, rfl⟩
  go_wp2_with fail
  refine (K2.out _).mono ?_
  rintro e w' ⟨rfl, rfl⟩
  go_wp2
  refine wp_region_held_drew (S := fun w' => w'.cell? ⟨w.heap.size, 0, none⟩ = some (.int .i64 (f)) ∧ w'.cell? ⟨w.heap.size, 1, none⟩ = some (.int .i64 (s)) ∧ w'.cell? ⟨w.heap.size + 1, 0, none⟩ = some (.int .i64 (lo)) ∧ w'.cell? ⟨w.heap.size + 1, 1, none⟩ = some (.int .i64 (hi)) ∧ w'.cell? ⟨w.heap.size + 1 + 1, 0, none⟩ = some (.int .i64 (0)) ∧ w'.cell? ⟨w.heap.size + 1 + 1, 1, none⟩ = some (.int .i64 (0)) ∧ w'.frozen? ⟨w.heap.size + 1 + 1, 0, none⟩ = false ∧ w'.frozen? ⟨w.heap.size + 1 + 1, 1, none⟩ = false) (by kernel_rfl) ?_ (fun hH1 => ?_)
  · (first | (go_keep; done) | (simp [*, go_sem]; done))
  refine wpAnyH_pure (i := 0) (v := ?_) rfl (by kernel_rfl) (by kernel_rfl) (by kernel_rfl) (fun _ _ _ h => h) (by rfl) (by assumption) ?_ ?_
  rotate_left
  · (intro w hSw; (try dsimp only at hSw); go_simp; (try with_reducible rfl))
  simp only [Act.put, List.getElem_toArray, List.getElem_cons_succ, List.getElem_cons_zero, List.setIfInBounds_toArray, List.set_cons_zero, List.set_cons_succ]
  refine wpAnyH_pure (i := 1) (v := ?_) rfl (by kernel_rfl) (by kernel_rfl) (by kernel_rfl) (fun _ _ _ h => h) (by rfl) (by assumption) ?_ ?_
  rotate_left
  · (intro w hSw; (try dsimp only at hSw); go_simp; (try with_reducible rfl))
  simp only [Act.put, List.getElem_toArray, List.getElem_cons_succ, List.getElem_cons_zero, List.setIfInBounds_toArray, List.set_cons_zero, List.set_cons_succ]
  refine wpAnyH_pure (i := 2) (v := ?_) rfl (by kernel_rfl) (by kernel_rfl) (by kernel_rfl) (fun _ _ _ h => h) (by rfl) (by assumption) ?_ ?_
  rotate_left
  · (intro w hSw; (try dsimp only at hSw); go_simp; (try with_reducible rfl))
  simp only [Act.put, List.getElem_toArray, List.getElem_cons_succ, List.getElem_cons_zero, List.setIfInBounds_toArray, List.set_cons_zero, List.set_cons_succ]
  refine wpAnyH_pure (i := 3) (v := ?_) rfl (by kernel_rfl) (by kernel_rfl) (by kernel_rfl) (fun _ _ _ h => h) (by rfl) (by assumption) ?_ ?_
  rotate_left
  · (intro w hSw; (try dsimp only at hSw); go_simp; (try with_reducible rfl))
  simp only [Act.put, List.getElem_toArray, List.getElem_cons_succ, List.getElem_cons_zero, List.setIfInBounds_toArray, List.set_cons_zero, List.set_cons_succ]
  refine wpAnyH_pure (i := 4) (v := ?_) rfl (by kernel_rfl) (by kernel_rfl) (by kernel_rfl) (fun _ _ _ h => h) (by rfl) (by assumption) ?_ ?_
  rotate_left
  · (intro w hSw; (try dsimp only at hSw); go_simp; (try with_reducible rfl))
  simp only [Act.put, List.getElem_toArray, List.getElem_cons_succ, List.getElem_cons_zero, List.setIfInBounds_toArray, List.set_cons_zero, List.set_cons_succ]
  refine wpAnyH_pure (i := 5) (v := ?_) rfl (by kernel_rfl) (by kernel_rfl) (by kernel_rfl) (fun _ _ _ h => h) (by rfl) (by assumption) ?_ ?_
  rotate_left
  · (intro w hSw; (try dsimp only at hSw); go_simp; (try with_reducible rfl))
  simp only [Act.put, List.getElem_toArray, List.getElem_cons_succ, List.getElem_cons_zero, List.setIfInBounds_toArray, List.set_cons_zero, List.set_cons_succ]
  refine wpAnyH_pure (i := 6) (v := ?_) rfl (by kernel_rfl) (by kernel_rfl) (by kernel_rfl) (fun _ _ _ h => h) (by rfl) (by assumption) ?_ ?_
  rotate_left
  · (intro w hSw; (try dsimp only at hSw); go_simp; (try with_reducible rfl))
  simp only [Act.put, List.getElem_toArray, List.getElem_cons_succ, List.getElem_cons_zero, List.setIfInBounds_toArray, List.set_cons_zero, List.set_cons_succ]
  refine wpAnyH_pure (i := 9) (v := ?_) rfl (by kernel_rfl) (by kernel_rfl) (by kernel_rfl) (fun _ _ _ h => h) (by rfl) (by assumption) ?_ ?_
  rotate_left
  · (intro w hSw; (try dsimp only at hSw); go_simp; (try with_reducible rfl))
  simp only [Act.put, List.getElem_toArray, List.getElem_cons_succ, List.getElem_cons_zero, List.setIfInBounds_toArray, List.set_cons_zero, List.set_cons_succ]
  refine wpAnyH_pure (i := 10) (v := ?_) rfl (by kernel_rfl) (by kernel_rfl) (by kernel_rfl) (fun _ _ _ h => h) (by rfl) (by assumption) ?_ ?_
  rotate_left
  · (intro w hSw; (try dsimp only at hSw); go_simp; (try with_reducible rfl))
  simp only [Act.put, List.getElem_toArray, List.getElem_cons_succ, List.getElem_cons_zero, List.setIfInBounds_toArray, List.set_cons_zero, List.set_cons_succ]
  refine wpAnyH_pure (i := 11) (v := ?_) rfl (by kernel_rfl) (by kernel_rfl) (by kernel_rfl) (fun _ _ _ h => h) (by rfl) (by assumption) ?_ ?_
  rotate_left
  · (intro w hSw; (try dsimp only at hSw); go_simp; (try with_reducible rfl))
  simp only [Act.put, List.getElem_toArray, List.getElem_cons_succ, List.getElem_cons_zero, List.setIfInBounds_toArray, List.set_cons_zero, List.set_cons_succ]
  refine wpAnyH_pure (i := 12) (v := ?_) rfl (by kernel_rfl) (by kernel_rfl) (by kernel_rfl) (fun _ _ _ h => h) (by rfl) (by assumption) ?_ ?_
  rotate_left
  · (intro w hSw; (try dsimp only at hSw); go_simp; (try with_reducible rfl))
  simp only [Act.put, List.getElem_toArray, List.getElem_cons_succ, List.getElem_cons_zero, List.setIfInBounds_toArray, List.set_cons_zero, List.set_cons_succ]
  refine wpAnyH_pure (i := 13) (v := ?_) rfl (by kernel_rfl) (by kernel_rfl) (by kernel_rfl) (fun _ _ _ h => h) (by rfl) (by assumption) ?_ ?_
  rotate_left
  · (intro w hSw; (try dsimp only at hSw); go_simp; (try with_reducible rfl))
  simp only [Act.put, List.getElem_toArray, List.getElem_cons_succ, List.getElem_cons_zero, List.setIfInBounds_toArray, List.set_cons_zero, List.set_cons_succ]
  refine wpAnyH_pure (i := 14) (v := ?_) rfl (by kernel_rfl) (by kernel_rfl) (by kernel_rfl) (fun _ _ _ h => h) (by rfl) (by assumption) ?_ ?_
  rotate_left
  · (intro w hSw; (try dsimp only at hSw); go_simp; (try with_reducible rfl))
  simp only [Act.put, List.getElem_toArray, List.getElem_cons_succ, List.getElem_cons_zero, List.setIfInBounds_toArray, List.set_cons_zero, List.set_cons_succ]
  refine wpAnyH_pure (i := 15) (v := ?_) rfl (by kernel_rfl) (by kernel_rfl) (by kernel_rfl) (fun _ _ _ h => h) (by rfl) (by assumption) ?_ ?_
  rotate_left
  · (intro w hSw; (try dsimp only at hSw); go_simp; (try with_reducible rfl))
  simp only [Act.put, List.getElem_toArray, List.getElem_cons_succ, List.getElem_cons_zero, List.setIfInBounds_toArray, List.set_cons_zero, List.set_cons_succ]
  refine wpAnyH_dag0 (fun a0 l0 l a W => ((W.cell? ⟨w.heap.size, 0, none⟩ = some (.int .i64 (f)) ∧ W.cell? ⟨w.heap.size, 1, none⟩ = some (.int .i64 (s)) ∧ W.cell? ⟨w.heap.size + 1, 0, none⟩ = some (.int .i64 (lo)) ∧ W.cell? ⟨w.heap.size + 1, 1, none⟩ = some (.int .i64 (hi)) ∧ W.cell? ⟨w.heap.size + 1 + 1, 0, none⟩ = some (.int .i64 (0)) ∧ W.cell? ⟨w.heap.size + 1 + 1, 1, none⟩ = some (.int .i64 (0)) ∧ W.frozen? ⟨w.heap.size + 1 + 1, 0, none⟩ = false ∧ W.frozen? ⟨w.heap.size + 1 + 1, 1, none⟩ = false) ∧ Below w.heap.size w W ∧ (w1.heap.size) ≤ W.heap.size) ∧ (((l = l0) ∧ (a = a0)) ∨ ((l = (l0.setIfInBounds 7 true)) ∧ (a = (a0.put (some 31) (.int .i64 A)))) ∨ (∃ n6 : Nat, (l = (l0.setIfInBounds 19 true)) ∧ (a = (a0.put (some 6) (.pointer (some ⟨n6, 0, none⟩)))) ∧ (((w1.heap.size) ≤ n6 ∧ n6 < W.heap.size) ∧ W.cell? ⟨n6, 0, none⟩ = some (.int .i64 0) ∧ W.frozen? ⟨n6, 0, none⟩ = false ∧ W.cell? ⟨n6, 1, none⟩ = some (.int .i64 0) ∧ W.frozen? ⟨n6, 1, none⟩ = false)) ∨ ((l = ((l0.setIfInBounds 7 true).setIfInBounds 8 true)) ∧ (a = ((a0.put (some 31) (.int .i64 A)).put (some 32) (.int .i64 (max 0 A))))) ∨ ((l = ((l0.setIfInBounds 7 true).setIfInBounds 16 true)) ∧ (a = ((a0.put (some 31) (.int .i64 A)).put (some 40) (.int .i64 B)))) ∨ (∃ n6 : Nat, (l = ((l0.setIfInBounds 7 true).setIfInBounds 19 true)) ∧ (a = ((a0.put (some 31) (.int .i64 A)).put (some 6) (.pointer (some ⟨n6, 0, none⟩)))) ∧ (((w1.heap.size) ≤ n6 ∧ n6 < W.heap.size) ∧ W.cell? ⟨n6, 0, none⟩ = some (.int .i64 0) ∧ W.frozen? ⟨n6, 0, none⟩ = false ∧ W.cell? ⟨n6, 1, none⟩ = some (.int .i64 0) ∧ W.frozen? ⟨n6, 1, none⟩ = false)) ∨ ((l = (((l0.setIfInBounds 7 true).setIfInBounds 8 true).setIfInBounds 16 true)) ∧ (a = (((a0.put (some 31) (.int .i64 A)).put (some 32) (.int .i64 (max 0 A))).put (some 40) (.int .i64 B)))) ∨ (∃ n6 : Nat, (l = (((l0.setIfInBounds 7 true).setIfInBounds 8 true).setIfInBounds 19 true)) ∧ (a = (((a0.put (some 31) (.int .i64 A)).put (some 32) (.int .i64 (max 0 A))).put (some 6) (.pointer (some ⟨n6, 0, none⟩)))) ∧ (((w1.heap.size) ≤ n6 ∧ n6 < W.heap.size) ∧ W.cell? ⟨n6, 0, none⟩ = some (.int .i64 0) ∧ W.frozen? ⟨n6, 0, none⟩ = false ∧ W.cell? ⟨n6, 1, none⟩ = some (.int .i64 0) ∧ W.frozen? ⟨n6, 1, none⟩ = false)) ∨ ((l = (((l0.setIfInBounds 7 true).setIfInBounds 16 true).setIfInBounds 17 true)) ∧ (a = (((a0.put (some 31) (.int .i64 A)).put (some 40) (.int .i64 B)).put (some 41) (.int .i64 (min 60 B))))) ∨ (∃ n6 : Nat, (l = (((l0.setIfInBounds 7 true).setIfInBounds 16 true).setIfInBounds 19 true)) ∧ (a = (((a0.put (some 31) (.int .i64 A)).put (some 40) (.int .i64 B)).put (some 6) (.pointer (some ⟨n6, 0, none⟩)))) ∧ (((w1.heap.size) ≤ n6 ∧ n6 < W.heap.size) ∧ W.cell? ⟨n6, 0, none⟩ = some (.int .i64 0) ∧ W.frozen? ⟨n6, 0, none⟩ = false ∧ W.cell? ⟨n6, 1, none⟩ = some (.int .i64 0) ∧ W.frozen? ⟨n6, 1, none⟩ = false)) ∨ ((l = ((((l0.setIfInBounds 7 true).setIfInBounds 8 true).setIfInBounds 16 true).setIfInBounds 17 true)) ∧ (a = ((((a0.put (some 31) (.int .i64 A)).put (some 32) (.int .i64 (max 0 A))).put (some 40) (.int .i64 B)).put (some 41) (.int .i64 (min 60 B))))) ∨ (∃ n6 : Nat, (l = ((((l0.setIfInBounds 7 true).setIfInBounds 8 true).setIfInBounds 16 true).setIfInBounds 19 true)) ∧ (a = ((((a0.put (some 31) (.int .i64 A)).put (some 32) (.int .i64 (max 0 A))).put (some 40) (.int .i64 B)).put (some 6) (.pointer (some ⟨n6, 0, none⟩)))) ∧ (((w1.heap.size) ≤ n6 ∧ n6 < W.heap.size) ∧ W.cell? ⟨n6, 0, none⟩ = some (.int .i64 0) ∧ W.frozen? ⟨n6, 0, none⟩ = false ∧ W.cell? ⟨n6, 1, none⟩ = some (.int .i64 0) ∧ W.frozen? ⟨n6, 1, none⟩ = false)) ∨ (∃ n6 : Nat, (l = ((((l0.setIfInBounds 7 true).setIfInBounds 16 true).setIfInBounds 17 true).setIfInBounds 19 true)) ∧ (a = ((((a0.put (some 31) (.int .i64 A)).put (some 40) (.int .i64 B)).put (some 41) (.int .i64 (min 60 B))).put (some 6) (.pointer (some ⟨n6, 0, none⟩)))) ∧ (((w1.heap.size) ≤ n6 ∧ n6 < W.heap.size) ∧ W.cell? ⟨n6, 0, none⟩ = some (.int .i64 0) ∧ W.frozen? ⟨n6, 0, none⟩ = false ∧ W.cell? ⟨n6, 1, none⟩ = some (.int .i64 0) ∧ W.frozen? ⟨n6, 1, none⟩ = false)) ∨ ((l = (((((l0.setIfInBounds 7 true).setIfInBounds 8 true).setIfInBounds 16 true).setIfInBounds 17 true).setIfInBounds 18 true)) ∧ (a = (((((a0.put (some 31) (.int .i64 A)).put (some 32) (.int .i64 (max 0 A))).put (some 40) (.int .i64 B)).put (some 41) (.int .i64 (min 60 B))).put (some 42) (.agg #[.int .i64 (max 0 A), .int .i64 (min 60 B)])))) ∨ (∃ n6 : Nat, (l = (((((l0.setIfInBounds 7 true).setIfInBounds 8 true).setIfInBounds 16 true).setIfInBounds 17 true).setIfInBounds 19 true)) ∧ (a = (((((a0.put (some 31) (.int .i64 A)).put (some 32) (.int .i64 (max 0 A))).put (some 40) (.int .i64 B)).put (some 41) (.int .i64 (min 60 B))).put (some 6) (.pointer (some ⟨n6, 0, none⟩)))) ∧ (((w1.heap.size) ≤ n6 ∧ n6 < W.heap.size) ∧ W.cell? ⟨n6, 0, none⟩ = some (.int .i64 0) ∧ W.frozen? ⟨n6, 0, none⟩ = false ∧ W.cell? ⟨n6, 1, none⟩ = some (.int .i64 0) ∧ W.frozen? ⟨n6, 1, none⟩ = false)) ∨ (∃ n6 : Nat, (l = ((((((l0.setIfInBounds 7 true).setIfInBounds 8 true).setIfInBounds 16 true).setIfInBounds 17 true).setIfInBounds 18 true).setIfInBounds 19 true)) ∧ (a = ((((((a0.put (some 31) (.int .i64 A)).put (some 32) (.int .i64 (max 0 A))).put (some 40) (.int .i64 B)).put (some 41) (.int .i64 (min 60 B))).put (some 42) (.agg #[.int .i64 (max 0 A), .int .i64 (min 60 B)])).put (some 6) (.pointer (some ⟨n6, 0, none⟩)))) ∧ (((w1.heap.size) ≤ n6 ∧ n6 < W.heap.size) ∧ W.cell? ⟨n6, 0, none⟩ = some (.int .i64 0) ∧ W.frozen? ⟨n6, 0, none⟩ = false ∧ W.cell? ⟨n6, 1, none⟩ = some (.int .i64 0) ∧ W.frozen? ⟨n6, 1, none⟩ = false)))) (by rfl) ?_ ?_ ?_
  · exact ⟨⟨hH1, by (repeat' (first | (with_reducible exact Below.refl _ _) | (with_reducible assumption) | (with_reducible refine Below.alloc ?_ ?_ _) | (with_reducible refine Below.drew ?_) | (with_reducible refine below_drewN ?_ _) | (with_reducible refine Below.setCell ?_ ?_ _) | (with_reducible refine below_step (by with_reducible assumption) ?_ ?_) | (with_reducible exact Below.size (by with_reducible assumption)) | go_size)), by first | omega | (simp only [World.size_alloc, World.size_setCell, World.size_drew, size_drewN]; omega)⟩, (Or.inl ⟨rfl, rfl⟩)⟩
  · intro l a W hI; exact hI.1.1
  intro l a W hI
  obtain ⟨⟨hSW, hB, hZ⟩, hI⟩ := hI
  have hSW' := hSW
  obtain ⟨cS0, cS1, cS2, cS3, cS4, cS5, cS6, cS7⟩ := hSW
  rcases hI with ⟨rfl, rfl⟩ | ⟨rfl, rfl⟩ | ⟨n6, rfl, rfl, ⟨⟨zn6, yn6⟩, dn6_0, fn6_0, dn6_1, fn6_1⟩⟩ | ⟨rfl, rfl⟩ | ⟨rfl, rfl⟩ | ⟨n6, rfl, rfl, ⟨⟨zn6, yn6⟩, dn6_0, fn6_0, dn6_1, fn6_1⟩⟩ | ⟨rfl, rfl⟩ | ⟨n6, rfl, rfl, ⟨⟨zn6, yn6⟩, dn6_0, fn6_0, dn6_1, fn6_1⟩⟩ | ⟨rfl, rfl⟩ | ⟨n6, rfl, rfl, ⟨⟨zn6, yn6⟩, dn6_0, fn6_0, dn6_1, fn6_1⟩⟩ | ⟨rfl, rfl⟩ | ⟨n6, rfl, rfl, ⟨⟨zn6, yn6⟩, dn6_0, fn6_0, dn6_1, fn6_1⟩⟩ | ⟨n6, rfl, rfl, ⟨⟨zn6, yn6⟩, dn6_0, fn6_0, dn6_1, fn6_1⟩⟩ | ⟨rfl, rfl⟩ | ⟨n6, rfl, rfl, ⟨⟨zn6, yn6⟩, dn6_0, fn6_0, dn6_1, fn6_1⟩⟩ | ⟨n6, rfl, rfl, ⟨⟨zn6, yn6⟩, dn6_0, fn6_0, dn6_1, fn6_1⟩⟩
  · left
    refine ⟨[7, 19], by kernel_rfl, by simp, ?_⟩
    simp only [Act.put, List.getElem_toArray, List.getElem_cons_succ, List.getElem_cons_zero, List.setIfInBounds_toArray, List.set_cons_zero, List.set_cons_succ]
    refine all_cons ?_ (all_cons ?_ (all_nil))
    · refine wpOp_step rfl (fun Kq hKq => ?_)
      go_simp
      refine (K3.out _).mono ?_
      rintro e W1 ⟨rfl, hw1⟩
      have hz1 := hw1.size
      have hc1 := (bcell hw1).1
      have hf1 := (bcell hw1).2
      refine hKq _ _ ?_
      exact ⟨⟨⟨(hc1 _ _ (by omega)).trans cS0, (hc1 _ _ (by omega)).trans cS1, (hc1 _ _ (by omega)).trans cS2, (hc1 _ _ (by omega)).trans cS3, (hc1 _ _ (by omega)).trans cS4, (hc1 _ _ (by omega)).trans cS5, (hf1 _ _ (by omega)).trans cS6, (hf1 _ _ (by omega)).trans cS7⟩, below_step hw1 hB (by have := hB.size; omega), by omega⟩, (Or.inr (Or.inl ⟨by rfl, by rfl⟩))⟩
    · refine wpOp_step rfl (fun Kq hKq => ?_)
      go_simp
      have hw1 : Below W.heap.size W (W.alloc (.cells #[.int .i64 0, .int .i64 0] 106)) := by (repeat' (first | (with_reducible exact Below.refl _ _) | (with_reducible assumption) | (with_reducible refine Below.alloc ?_ ?_ _) | (with_reducible refine Below.drew ?_) | (with_reducible refine below_drewN ?_ _) | (with_reducible refine Below.setCell ?_ ?_ _) | (with_reducible refine below_step (by with_reducible assumption) ?_ ?_) | (with_reducible exact Below.size (by with_reducible assumption)) | go_size))
      have hz1 : (W.alloc (.cells #[.int .i64 0, .int .i64 0] 106)).heap.size = W.heap.size + 1 := by simp
      have hc1 := (bcell hw1).1
      have hf1 := (bcell hw1).2
      refine hKq _ _ ?_
      exact ⟨⟨⟨(hc1 _ _ (by omega)).trans cS0, (hc1 _ _ (by omega)).trans cS1, (hc1 _ _ (by omega)).trans cS2, (hc1 _ _ (by omega)).trans cS3, (hc1 _ _ (by omega)).trans cS4, (hc1 _ _ (by omega)).trans cS5, (hf1 _ _ (by omega)).trans cS6, (hf1 _ _ (by omega)).trans cS7⟩, below_step hw1 hB (by have := hB.size; omega), by omega⟩, (Or.inr (Or.inr (Or.inl ⟨W.heap.size, by rfl, by rfl, ⟨⟨by omega, by omega⟩, by simp [go_sem], by simp [go_sem], by simp [go_sem], by simp [go_sem]⟩⟩)))⟩
  · left
    refine ⟨[8, 16, 19], by kernel_rfl, by simp, ?_⟩
    simp only [Act.put, List.getElem_toArray, List.getElem_cons_succ, List.getElem_cons_zero, List.setIfInBounds_toArray, List.set_cons_zero, List.set_cons_succ]
    refine all_cons ?_ (all_cons ?_ (all_cons ?_ (all_nil)))
    · refine wpOp_step rfl (fun Kq hKq => ?_)
      go_simp
      have hw1 : Below W.heap.size W W := Below.refl _ _
      have hz1 := hw1.size
      have hc1 := (bcell hw1).1
      have hf1 := (bcell hw1).2
      refine hKq _ _ ?_
      exact ⟨⟨⟨(hc1 _ _ (by omega)).trans cS0, (hc1 _ _ (by omega)).trans cS1, (hc1 _ _ (by omega)).trans cS2, (hc1 _ _ (by omega)).trans cS3, (hc1 _ _ (by omega)).trans cS4, (hc1 _ _ (by omega)).trans cS5, (hf1 _ _ (by omega)).trans cS6, (hf1 _ _ (by omega)).trans cS7⟩, below_step hw1 hB (by have := hB.size; omega), by omega⟩, (Or.inr (Or.inr (Or.inr (Or.inl ⟨by rfl, by rfl⟩))))⟩
    · refine wpOp_step rfl (fun Kq hKq => ?_)
      go_simp
      refine (K4.out _).mono ?_
      rintro e W1 ⟨rfl, hw1⟩
      have hz1 := hw1.size
      have hc1 := (bcell hw1).1
      have hf1 := (bcell hw1).2
      refine hKq _ _ ?_
      exact ⟨⟨⟨(hc1 _ _ (by omega)).trans cS0, (hc1 _ _ (by omega)).trans cS1, (hc1 _ _ (by omega)).trans cS2, (hc1 _ _ (by omega)).trans cS3, (hc1 _ _ (by omega)).trans cS4, (hc1 _ _ (by omega)).trans cS5, (hf1 _ _ (by omega)).trans cS6, (hf1 _ _ (by omega)).trans cS7⟩, below_step hw1 hB (by have := hB.size; omega), by omega⟩, (Or.inr (Or.inr (Or.inr (Or.inr (Or.inl ⟨by rfl, by rfl⟩)))))⟩
    · refine wpOp_step rfl (fun Kq hKq => ?_)
      go_simp
      have hw1 : Below W.heap.size W (W.alloc (.cells #[.int .i64 0, .int .i64 0] 106)) := by (repeat' (first | (with_reducible exact Below.refl _ _) | (with_reducible assumption) | (with_reducible refine Below.alloc ?_ ?_ _) | (with_reducible refine Below.drew ?_) | (with_reducible refine below_drewN ?_ _) | (with_reducible refine Below.setCell ?_ ?_ _) | (with_reducible refine below_step (by with_reducible assumption) ?_ ?_) | (with_reducible exact Below.size (by with_reducible assumption)) | go_size))
      have hz1 : (W.alloc (.cells #[.int .i64 0, .int .i64 0] 106)).heap.size = W.heap.size + 1 := by simp
      have hc1 := (bcell hw1).1
      have hf1 := (bcell hw1).2
      refine hKq _ _ ?_
      exact ⟨⟨⟨(hc1 _ _ (by omega)).trans cS0, (hc1 _ _ (by omega)).trans cS1, (hc1 _ _ (by omega)).trans cS2, (hc1 _ _ (by omega)).trans cS3, (hc1 _ _ (by omega)).trans cS4, (hc1 _ _ (by omega)).trans cS5, (hf1 _ _ (by omega)).trans cS6, (hf1 _ _ (by omega)).trans cS7⟩, below_step hw1 hB (by have := hB.size; omega), by omega⟩, (Or.inr (Or.inr (Or.inr (Or.inr (Or.inr (Or.inl ⟨W.heap.size, by rfl, by rfl, ⟨⟨by omega, by omega⟩, by simp [go_sem], by simp [go_sem], by simp [go_sem], by simp [go_sem]⟩⟩))))))⟩
  · left
    refine ⟨[7], by kernel_rfl, by simp, ?_⟩
    simp only [Act.put, List.getElem_toArray, List.getElem_cons_succ, List.getElem_cons_zero, List.setIfInBounds_toArray, List.set_cons_zero, List.set_cons_succ]
    refine all_cons ?_ (all_nil)
    · refine wpOp_step rfl (fun Kq hKq => ?_)
      go_simp
      refine (K3.out _).mono ?_
      rintro e W1 ⟨rfl, hw1⟩
      have hz1 := hw1.size
      have hc1 := (bcell hw1).1
      have hf1 := (bcell hw1).2
      refine hKq _ _ ?_
      exact ⟨⟨⟨(hc1 _ _ (by omega)).trans cS0, (hc1 _ _ (by omega)).trans cS1, (hc1 _ _ (by omega)).trans cS2, (hc1 _ _ (by omega)).trans cS3, (hc1 _ _ (by omega)).trans cS4, (hc1 _ _ (by omega)).trans cS5, (hf1 _ _ (by omega)).trans cS6, (hf1 _ _ (by omega)).trans cS7⟩, below_step hw1 hB (by have := hB.size; omega), by omega⟩, (Or.inr (Or.inr (Or.inr (Or.inr (Or.inr (Or.inl ⟨n6, by rfl, by rfl, ⟨⟨zn6, by omega⟩, (hc1 _ _ (by omega)).trans dn6_0, (hf1 _ _ (by omega)).trans fn6_0, (hc1 _ _ (by omega)).trans dn6_1, (hf1 _ _ (by omega)).trans fn6_1⟩⟩))))))⟩
  · left
    refine ⟨[16, 19], by kernel_rfl, by simp, ?_⟩
    simp only [Act.put, List.getElem_toArray, List.getElem_cons_succ, List.getElem_cons_zero, List.setIfInBounds_toArray, List.set_cons_zero, List.set_cons_succ]
    refine all_cons ?_ (all_cons ?_ (all_nil))
    · refine wpOp_step rfl (fun Kq hKq => ?_)
      go_simp
      refine (K4.out _).mono ?_
      rintro e W1 ⟨rfl, hw1⟩
      have hz1 := hw1.size
      have hc1 := (bcell hw1).1
      have hf1 := (bcell hw1).2
      refine hKq _ _ ?_
      exact ⟨⟨⟨(hc1 _ _ (by omega)).trans cS0, (hc1 _ _ (by omega)).trans cS1, (hc1 _ _ (by omega)).trans cS2, (hc1 _ _ (by omega)).trans cS3, (hc1 _ _ (by omega)).trans cS4, (hc1 _ _ (by omega)).trans cS5, (hf1 _ _ (by omega)).trans cS6, (hf1 _ _ (by omega)).trans cS7⟩, below_step hw1 hB (by have := hB.size; omega), by omega⟩, (Or.inr (Or.inr (Or.inr (Or.inr (Or.inr (Or.inr (Or.inl ⟨by rfl, by rfl⟩)))))))⟩
    · refine wpOp_step rfl (fun Kq hKq => ?_)
      go_simp
      have hw1 : Below W.heap.size W (W.alloc (.cells #[.int .i64 0, .int .i64 0] 106)) := by (repeat' (first | (with_reducible exact Below.refl _ _) | (with_reducible assumption) | (with_reducible refine Below.alloc ?_ ?_ _) | (with_reducible refine Below.drew ?_) | (with_reducible refine below_drewN ?_ _) | (with_reducible refine Below.setCell ?_ ?_ _) | (with_reducible refine below_step (by with_reducible assumption) ?_ ?_) | (with_reducible exact Below.size (by with_reducible assumption)) | go_size))
      have hz1 : (W.alloc (.cells #[.int .i64 0, .int .i64 0] 106)).heap.size = W.heap.size + 1 := by simp
      have hc1 := (bcell hw1).1
      have hf1 := (bcell hw1).2
      refine hKq _ _ ?_
      exact ⟨⟨⟨(hc1 _ _ (by omega)).trans cS0, (hc1 _ _ (by omega)).trans cS1, (hc1 _ _ (by omega)).trans cS2, (hc1 _ _ (by omega)).trans cS3, (hc1 _ _ (by omega)).trans cS4, (hc1 _ _ (by omega)).trans cS5, (hf1 _ _ (by omega)).trans cS6, (hf1 _ _ (by omega)).trans cS7⟩, below_step hw1 hB (by have := hB.size; omega), by omega⟩, (Or.inr (Or.inr (Or.inr (Or.inr (Or.inr (Or.inr (Or.inr (Or.inl ⟨W.heap.size, by rfl, by rfl, ⟨⟨by omega, by omega⟩, by simp [go_sem], by simp [go_sem], by simp [go_sem], by simp [go_sem]⟩⟩))))))))⟩
  · left
    refine ⟨[8, 17, 19], by kernel_rfl, by simp, ?_⟩
    simp only [Act.put, List.getElem_toArray, List.getElem_cons_succ, List.getElem_cons_zero, List.setIfInBounds_toArray, List.set_cons_zero, List.set_cons_succ]
    refine all_cons ?_ (all_cons ?_ (all_cons ?_ (all_nil)))
    · refine wpOp_step rfl (fun Kq hKq => ?_)
      go_simp
      have hw1 : Below W.heap.size W W := Below.refl _ _
      have hz1 := hw1.size
      have hc1 := (bcell hw1).1
      have hf1 := (bcell hw1).2
      refine hKq _ _ ?_
      exact ⟨⟨⟨(hc1 _ _ (by omega)).trans cS0, (hc1 _ _ (by omega)).trans cS1, (hc1 _ _ (by omega)).trans cS2, (hc1 _ _ (by omega)).trans cS3, (hc1 _ _ (by omega)).trans cS4, (hc1 _ _ (by omega)).trans cS5, (hf1 _ _ (by omega)).trans cS6, (hf1 _ _ (by omega)).trans cS7⟩, below_step hw1 hB (by have := hB.size; omega), by omega⟩, (Or.inr (Or.inr (Or.inr (Or.inr (Or.inr (Or.inr (Or.inl ⟨by rfl, by rfl⟩)))))))⟩
    · refine wpOp_step rfl (fun Kq hKq => ?_)
      go_simp
      have hw1 : Below W.heap.size W W := Below.refl _ _
      have hz1 := hw1.size
      have hc1 := (bcell hw1).1
      have hf1 := (bcell hw1).2
      refine hKq _ _ ?_
      exact ⟨⟨⟨(hc1 _ _ (by omega)).trans cS0, (hc1 _ _ (by omega)).trans cS1, (hc1 _ _ (by omega)).trans cS2, (hc1 _ _ (by omega)).trans cS3, (hc1 _ _ (by omega)).trans cS4, (hc1 _ _ (by omega)).trans cS5, (hf1 _ _ (by omega)).trans cS6, (hf1 _ _ (by omega)).trans cS7⟩, below_step hw1 hB (by have := hB.size; omega), by omega⟩, (Or.inr (Or.inr (Or.inr (Or.inr (Or.inr (Or.inr (Or.inr (Or.inr (Or.inl ⟨by rfl, by rfl⟩)))))))))⟩
    · refine wpOp_step rfl (fun Kq hKq => ?_)
      go_simp
      have hw1 : Below W.heap.size W (W.alloc (.cells #[.int .i64 0, .int .i64 0] 106)) := by (repeat' (first | (with_reducible exact Below.refl _ _) | (with_reducible assumption) | (with_reducible refine Below.alloc ?_ ?_ _) | (with_reducible refine Below.drew ?_) | (with_reducible refine below_drewN ?_ _) | (with_reducible refine Below.setCell ?_ ?_ _) | (with_reducible refine below_step (by with_reducible assumption) ?_ ?_) | (with_reducible exact Below.size (by with_reducible assumption)) | go_size))
      have hz1 : (W.alloc (.cells #[.int .i64 0, .int .i64 0] 106)).heap.size = W.heap.size + 1 := by simp
      have hc1 := (bcell hw1).1
      have hf1 := (bcell hw1).2
      refine hKq _ _ ?_
      exact ⟨⟨⟨(hc1 _ _ (by omega)).trans cS0, (hc1 _ _ (by omega)).trans cS1, (hc1 _ _ (by omega)).trans cS2, (hc1 _ _ (by omega)).trans cS3, (hc1 _ _ (by omega)).trans cS4, (hc1 _ _ (by omega)).trans cS5, (hf1 _ _ (by omega)).trans cS6, (hf1 _ _ (by omega)).trans cS7⟩, below_step hw1 hB (by have := hB.size; omega), by omega⟩, (Or.inr (Or.inr (Or.inr (Or.inr (Or.inr (Or.inr (Or.inr (Or.inr (Or.inr (Or.inl ⟨W.heap.size, by rfl, by rfl, ⟨⟨by omega, by omega⟩, by simp [go_sem], by simp [go_sem], by simp [go_sem], by simp [go_sem]⟩⟩))))))))))⟩
  · left
    refine ⟨[8, 16], by kernel_rfl, by simp, ?_⟩
    simp only [Act.put, List.getElem_toArray, List.getElem_cons_succ, List.getElem_cons_zero, List.setIfInBounds_toArray, List.set_cons_zero, List.set_cons_succ]
    refine all_cons ?_ (all_cons ?_ (all_nil))
    · refine wpOp_step rfl (fun Kq hKq => ?_)
      go_simp
      have hw1 : Below W.heap.size W W := Below.refl _ _
      have hz1 := hw1.size
      have hc1 := (bcell hw1).1
      have hf1 := (bcell hw1).2
      refine hKq _ _ ?_
      exact ⟨⟨⟨(hc1 _ _ (by omega)).trans cS0, (hc1 _ _ (by omega)).trans cS1, (hc1 _ _ (by omega)).trans cS2, (hc1 _ _ (by omega)).trans cS3, (hc1 _ _ (by omega)).trans cS4, (hc1 _ _ (by omega)).trans cS5, (hf1 _ _ (by omega)).trans cS6, (hf1 _ _ (by omega)).trans cS7⟩, below_step hw1 hB (by have := hB.size; omega), by omega⟩, (Or.inr (Or.inr (Or.inr (Or.inr (Or.inr (Or.inr (Or.inr (Or.inl ⟨n6, by rfl, by rfl, ⟨⟨zn6, by omega⟩, (hc1 _ _ (by omega)).trans dn6_0, (hf1 _ _ (by omega)).trans fn6_0, (hc1 _ _ (by omega)).trans dn6_1, (hf1 _ _ (by omega)).trans fn6_1⟩⟩))))))))⟩
    · refine wpOp_step rfl (fun Kq hKq => ?_)
      go_simp
      refine (K4.out _).mono ?_
      rintro e W1 ⟨rfl, hw1⟩
      have hz1 := hw1.size
      have hc1 := (bcell hw1).1
      have hf1 := (bcell hw1).2
      refine hKq _ _ ?_
      exact ⟨⟨⟨(hc1 _ _ (by omega)).trans cS0, (hc1 _ _ (by omega)).trans cS1, (hc1 _ _ (by omega)).trans cS2, (hc1 _ _ (by omega)).trans cS3, (hc1 _ _ (by omega)).trans cS4, (hc1 _ _ (by omega)).trans cS5, (hf1 _ _ (by omega)).trans cS6, (hf1 _ _ (by omega)).trans cS7⟩, below_step hw1 hB (by have := hB.size; omega), by omega⟩, (Or.inr (Or.inr (Or.inr (Or.inr (Or.inr (Or.inr (Or.inr (Or.inr (Or.inr (Or.inl ⟨n6, by rfl, by rfl, ⟨⟨zn6, by omega⟩, (hc1 _ _ (by omega)).trans dn6_0, (hf1 _ _ (by omega)).trans fn6_0, (hc1 _ _ (by omega)).trans dn6_1, (hf1 _ _ (by omega)).trans fn6_1⟩⟩))))))))))⟩
  · left
    refine ⟨[17, 19], by kernel_rfl, by simp, ?_⟩
    simp only [Act.put, List.getElem_toArray, List.getElem_cons_succ, List.getElem_cons_zero, List.setIfInBounds_toArray, List.set_cons_zero, List.set_cons_succ]
    refine all_cons ?_ (all_cons ?_ (all_nil))
    · refine wpOp_step rfl (fun Kq hKq => ?_)
      go_simp
      have hw1 : Below W.heap.size W W := Below.refl _ _
      have hz1 := hw1.size
      have hc1 := (bcell hw1).1
      have hf1 := (bcell hw1).2
      refine hKq _ _ ?_
      exact ⟨⟨⟨(hc1 _ _ (by omega)).trans cS0, (hc1 _ _ (by omega)).trans cS1, (hc1 _ _ (by omega)).trans cS2, (hc1 _ _ (by omega)).trans cS3, (hc1 _ _ (by omega)).trans cS4, (hc1 _ _ (by omega)).trans cS5, (hf1 _ _ (by omega)).trans cS6, (hf1 _ _ (by omega)).trans cS7⟩, below_step hw1 hB (by have := hB.size; omega), by omega⟩, (Or.inr (Or.inr (Or.inr (Or.inr (Or.inr (Or.inr (Or.inr (Or.inr (Or.inr (Or.inr (Or.inl ⟨by rfl, by rfl⟩)))))))))))⟩
    · refine wpOp_step rfl (fun Kq hKq => ?_)
      go_simp
      have hw1 : Below W.heap.size W (W.alloc (.cells #[.int .i64 0, .int .i64 0] 106)) := by (repeat' (first | (with_reducible exact Below.refl _ _) | (with_reducible assumption) | (with_reducible refine Below.alloc ?_ ?_ _) | (with_reducible refine Below.drew ?_) | (with_reducible refine below_drewN ?_ _) | (with_reducible refine Below.setCell ?_ ?_ _) | (with_reducible refine below_step (by with_reducible assumption) ?_ ?_) | (with_reducible exact Below.size (by with_reducible assumption)) | go_size))
      have hz1 : (W.alloc (.cells #[.int .i64 0, .int .i64 0] 106)).heap.size = W.heap.size + 1 := by simp
      have hc1 := (bcell hw1).1
      have hf1 := (bcell hw1).2
      refine hKq _ _ ?_
      exact ⟨⟨⟨(hc1 _ _ (by omega)).trans cS0, (hc1 _ _ (by omega)).trans cS1, (hc1 _ _ (by omega)).trans cS2, (hc1 _ _ (by omega)).trans cS3, (hc1 _ _ (by omega)).trans cS4, (hc1 _ _ (by omega)).trans cS5, (hf1 _ _ (by omega)).trans cS6, (hf1 _ _ (by omega)).trans cS7⟩, below_step hw1 hB (by have := hB.size; omega), by omega⟩, (Or.inr (Or.inr (Or.inr (Or.inr (Or.inr (Or.inr (Or.inr (Or.inr (Or.inr (Or.inr (Or.inr (Or.inl ⟨W.heap.size, by rfl, by rfl, ⟨⟨by omega, by omega⟩, by simp [go_sem], by simp [go_sem], by simp [go_sem], by simp [go_sem]⟩⟩))))))))))))⟩
  · left
    refine ⟨[16], by kernel_rfl, by simp, ?_⟩
    simp only [Act.put, List.getElem_toArray, List.getElem_cons_succ, List.getElem_cons_zero, List.setIfInBounds_toArray, List.set_cons_zero, List.set_cons_succ]
    refine all_cons ?_ (all_nil)
    · refine wpOp_step rfl (fun Kq hKq => ?_)
      go_simp
      refine (K4.out _).mono ?_
      rintro e W1 ⟨rfl, hw1⟩
      have hz1 := hw1.size
      have hc1 := (bcell hw1).1
      have hf1 := (bcell hw1).2
      refine hKq _ _ ?_
      exact ⟨⟨⟨(hc1 _ _ (by omega)).trans cS0, (hc1 _ _ (by omega)).trans cS1, (hc1 _ _ (by omega)).trans cS2, (hc1 _ _ (by omega)).trans cS3, (hc1 _ _ (by omega)).trans cS4, (hc1 _ _ (by omega)).trans cS5, (hf1 _ _ (by omega)).trans cS6, (hf1 _ _ (by omega)).trans cS7⟩, below_step hw1 hB (by have := hB.size; omega), by omega⟩, (Or.inr (Or.inr (Or.inr (Or.inr (Or.inr (Or.inr (Or.inr (Or.inr (Or.inr (Or.inr (Or.inr (Or.inl ⟨n6, by rfl, by rfl, ⟨⟨zn6, by omega⟩, (hc1 _ _ (by omega)).trans dn6_0, (hf1 _ _ (by omega)).trans fn6_0, (hc1 _ _ (by omega)).trans dn6_1, (hf1 _ _ (by omega)).trans fn6_1⟩⟩))))))))))))⟩
  · left
    refine ⟨[8, 19], by kernel_rfl, by simp, ?_⟩
    simp only [Act.put, List.getElem_toArray, List.getElem_cons_succ, List.getElem_cons_zero, List.setIfInBounds_toArray, List.set_cons_zero, List.set_cons_succ]
    refine all_cons ?_ (all_cons ?_ (all_nil))
    · refine wpOp_step rfl (fun Kq hKq => ?_)
      go_simp
      have hw1 : Below W.heap.size W W := Below.refl _ _
      have hz1 := hw1.size
      have hc1 := (bcell hw1).1
      have hf1 := (bcell hw1).2
      refine hKq _ _ ?_
      exact ⟨⟨⟨(hc1 _ _ (by omega)).trans cS0, (hc1 _ _ (by omega)).trans cS1, (hc1 _ _ (by omega)).trans cS2, (hc1 _ _ (by omega)).trans cS3, (hc1 _ _ (by omega)).trans cS4, (hc1 _ _ (by omega)).trans cS5, (hf1 _ _ (by omega)).trans cS6, (hf1 _ _ (by omega)).trans cS7⟩, below_step hw1 hB (by have := hB.size; omega), by omega⟩, (Or.inr (Or.inr (Or.inr (Or.inr (Or.inr (Or.inr (Or.inr (Or.inr (Or.inr (Or.inr (Or.inl ⟨by rfl, by rfl⟩)))))))))))⟩
    · refine wpOp_step rfl (fun Kq hKq => ?_)
      go_simp
      have hw1 : Below W.heap.size W (W.alloc (.cells #[.int .i64 0, .int .i64 0] 106)) := by (repeat' (first | (with_reducible exact Below.refl _ _) | (with_reducible assumption) | (with_reducible refine Below.alloc ?_ ?_ _) | (with_reducible refine Below.drew ?_) | (with_reducible refine below_drewN ?_ _) | (with_reducible refine Below.setCell ?_ ?_ _) | (with_reducible refine below_step (by with_reducible assumption) ?_ ?_) | (with_reducible exact Below.size (by with_reducible assumption)) | go_size))
      have hz1 : (W.alloc (.cells #[.int .i64 0, .int .i64 0] 106)).heap.size = W.heap.size + 1 := by simp
      have hc1 := (bcell hw1).1
      have hf1 := (bcell hw1).2
      refine hKq _ _ ?_
      exact ⟨⟨⟨(hc1 _ _ (by omega)).trans cS0, (hc1 _ _ (by omega)).trans cS1, (hc1 _ _ (by omega)).trans cS2, (hc1 _ _ (by omega)).trans cS3, (hc1 _ _ (by omega)).trans cS4, (hc1 _ _ (by omega)).trans cS5, (hf1 _ _ (by omega)).trans cS6, (hf1 _ _ (by omega)).trans cS7⟩, below_step hw1 hB (by have := hB.size; omega), by omega⟩, (Or.inr (Or.inr (Or.inr (Or.inr (Or.inr (Or.inr (Or.inr (Or.inr (Or.inr (Or.inr (Or.inr (Or.inr (Or.inl ⟨W.heap.size, by rfl, by rfl, ⟨⟨by omega, by omega⟩, by simp [go_sem], by simp [go_sem], by simp [go_sem], by simp [go_sem]⟩⟩)))))))))))))⟩
  · left
    refine ⟨[8, 17], by kernel_rfl, by simp, ?_⟩
    simp only [Act.put, List.getElem_toArray, List.getElem_cons_succ, List.getElem_cons_zero, List.setIfInBounds_toArray, List.set_cons_zero, List.set_cons_succ]
    refine all_cons ?_ (all_cons ?_ (all_nil))
    · refine wpOp_step rfl (fun Kq hKq => ?_)
      go_simp
      have hw1 : Below W.heap.size W W := Below.refl _ _
      have hz1 := hw1.size
      have hc1 := (bcell hw1).1
      have hf1 := (bcell hw1).2
      refine hKq _ _ ?_
      exact ⟨⟨⟨(hc1 _ _ (by omega)).trans cS0, (hc1 _ _ (by omega)).trans cS1, (hc1 _ _ (by omega)).trans cS2, (hc1 _ _ (by omega)).trans cS3, (hc1 _ _ (by omega)).trans cS4, (hc1 _ _ (by omega)).trans cS5, (hf1 _ _ (by omega)).trans cS6, (hf1 _ _ (by omega)).trans cS7⟩, below_step hw1 hB (by have := hB.size; omega), by omega⟩, (Or.inr (Or.inr (Or.inr (Or.inr (Or.inr (Or.inr (Or.inr (Or.inr (Or.inr (Or.inr (Or.inr (Or.inl ⟨n6, by rfl, by rfl, ⟨⟨zn6, by omega⟩, (hc1 _ _ (by omega)).trans dn6_0, (hf1 _ _ (by omega)).trans fn6_0, (hc1 _ _ (by omega)).trans dn6_1, (hf1 _ _ (by omega)).trans fn6_1⟩⟩))))))))))))⟩
    · refine wpOp_step rfl (fun Kq hKq => ?_)
      go_simp
      have hw1 : Below W.heap.size W W := Below.refl _ _
      have hz1 := hw1.size
      have hc1 := (bcell hw1).1
      have hf1 := (bcell hw1).2
      refine hKq _ _ ?_
      exact ⟨⟨⟨(hc1 _ _ (by omega)).trans cS0, (hc1 _ _ (by omega)).trans cS1, (hc1 _ _ (by omega)).trans cS2, (hc1 _ _ (by omega)).trans cS3, (hc1 _ _ (by omega)).trans cS4, (hc1 _ _ (by omega)).trans cS5, (hf1 _ _ (by omega)).trans cS6, (hf1 _ _ (by omega)).trans cS7⟩, below_step hw1 hB (by have := hB.size; omega), by omega⟩, (Or.inr (Or.inr (Or.inr (Or.inr (Or.inr (Or.inr (Or.inr (Or.inr (Or.inr (Or.inr (Or.inr (Or.inr (Or.inl ⟨n6, by rfl, by rfl, ⟨⟨zn6, by omega⟩, (hc1 _ _ (by omega)).trans dn6_0, (hf1 _ _ (by omega)).trans fn6_0, (hc1 _ _ (by omega)).trans dn6_1, (hf1 _ _ (by omega)).trans fn6_1⟩⟩)))))))))))))⟩
  · left
    refine ⟨[18, 19], by kernel_rfl, by simp, ?_⟩
    simp only [Act.put, List.getElem_toArray, List.getElem_cons_succ, List.getElem_cons_zero, List.setIfInBounds_toArray, List.set_cons_zero, List.set_cons_succ]
    refine all_cons ?_ (all_cons ?_ (all_nil))
    · refine wpOp_step rfl (fun Kq hKq => ?_)
      go_simp
      have hw1 : Below W.heap.size W W := Below.refl _ _
      have hz1 := hw1.size
      have hc1 := (bcell hw1).1
      have hf1 := (bcell hw1).2
      refine hKq _ _ ?_
      exact ⟨⟨⟨(hc1 _ _ (by omega)).trans cS0, (hc1 _ _ (by omega)).trans cS1, (hc1 _ _ (by omega)).trans cS2, (hc1 _ _ (by omega)).trans cS3, (hc1 _ _ (by omega)).trans cS4, (hc1 _ _ (by omega)).trans cS5, (hf1 _ _ (by omega)).trans cS6, (hf1 _ _ (by omega)).trans cS7⟩, below_step hw1 hB (by have := hB.size; omega), by omega⟩, (Or.inr (Or.inr (Or.inr (Or.inr (Or.inr (Or.inr (Or.inr (Or.inr (Or.inr (Or.inr (Or.inr (Or.inr (Or.inr (Or.inl ⟨by rfl, by rfl⟩))))))))))))))⟩
    · refine wpOp_step rfl (fun Kq hKq => ?_)
      go_simp
      have hw1 : Below W.heap.size W (W.alloc (.cells #[.int .i64 0, .int .i64 0] 106)) := by (repeat' (first | (with_reducible exact Below.refl _ _) | (with_reducible assumption) | (with_reducible refine Below.alloc ?_ ?_ _) | (with_reducible refine Below.drew ?_) | (with_reducible refine below_drewN ?_ _) | (with_reducible refine Below.setCell ?_ ?_ _) | (with_reducible refine below_step (by with_reducible assumption) ?_ ?_) | (with_reducible exact Below.size (by with_reducible assumption)) | go_size))
      have hz1 : (W.alloc (.cells #[.int .i64 0, .int .i64 0] 106)).heap.size = W.heap.size + 1 := by simp
      have hc1 := (bcell hw1).1
      have hf1 := (bcell hw1).2
      refine hKq _ _ ?_
      exact ⟨⟨⟨(hc1 _ _ (by omega)).trans cS0, (hc1 _ _ (by omega)).trans cS1, (hc1 _ _ (by omega)).trans cS2, (hc1 _ _ (by omega)).trans cS3, (hc1 _ _ (by omega)).trans cS4, (hc1 _ _ (by omega)).trans cS5, (hf1 _ _ (by omega)).trans cS6, (hf1 _ _ (by omega)).trans cS7⟩, below_step hw1 hB (by have := hB.size; omega), by omega⟩, (Or.inr (Or.inr (Or.inr (Or.inr (Or.inr (Or.inr (Or.inr (Or.inr (Or.inr (Or.inr (Or.inr (Or.inr (Or.inr (Or.inr (Or.inl ⟨W.heap.size, by rfl, by rfl, ⟨⟨by omega, by omega⟩, by simp [go_sem], by simp [go_sem], by simp [go_sem], by simp [go_sem]⟩⟩)))))))))))))))⟩
  · left
    refine ⟨[17], by kernel_rfl, by simp, ?_⟩
    simp only [Act.put, List.getElem_toArray, List.getElem_cons_succ, List.getElem_cons_zero, List.setIfInBounds_toArray, List.set_cons_zero, List.set_cons_succ]
    refine all_cons ?_ (all_nil)
    · refine wpOp_step rfl (fun Kq hKq => ?_)
      go_simp
      have hw1 : Below W.heap.size W W := Below.refl _ _
      have hz1 := hw1.size
      have hc1 := (bcell hw1).1
      have hf1 := (bcell hw1).2
      refine hKq _ _ ?_
      exact ⟨⟨⟨(hc1 _ _ (by omega)).trans cS0, (hc1 _ _ (by omega)).trans cS1, (hc1 _ _ (by omega)).trans cS2, (hc1 _ _ (by omega)).trans cS3, (hc1 _ _ (by omega)).trans cS4, (hc1 _ _ (by omega)).trans cS5, (hf1 _ _ (by omega)).trans cS6, (hf1 _ _ (by omega)).trans cS7⟩, below_step hw1 hB (by have := hB.size; omega), by omega⟩, (Or.inr (Or.inr (Or.inr (Or.inr (Or.inr (Or.inr (Or.inr (Or.inr (Or.inr (Or.inr (Or.inr (Or.inr (Or.inr (Or.inr (Or.inl ⟨n6, by rfl, by rfl, ⟨⟨zn6, by omega⟩, (hc1 _ _ (by omega)).trans dn6_0, (hf1 _ _ (by omega)).trans fn6_0, (hc1 _ _ (by omega)).trans dn6_1, (hf1 _ _ (by omega)).trans fn6_1⟩⟩)))))))))))))))⟩
  · left
    refine ⟨[8], by kernel_rfl, by simp, ?_⟩
    simp only [Act.put, List.getElem_toArray, List.getElem_cons_succ, List.getElem_cons_zero, List.setIfInBounds_toArray, List.set_cons_zero, List.set_cons_succ]
    refine all_cons ?_ (all_nil)
    · refine wpOp_step rfl (fun Kq hKq => ?_)
      go_simp
      have hw1 : Below W.heap.size W W := Below.refl _ _
      have hz1 := hw1.size
      have hc1 := (bcell hw1).1
      have hf1 := (bcell hw1).2
      refine hKq _ _ ?_
      exact ⟨⟨⟨(hc1 _ _ (by omega)).trans cS0, (hc1 _ _ (by omega)).trans cS1, (hc1 _ _ (by omega)).trans cS2, (hc1 _ _ (by omega)).trans cS3, (hc1 _ _ (by omega)).trans cS4, (hc1 _ _ (by omega)).trans cS5, (hf1 _ _ (by omega)).trans cS6, (hf1 _ _ (by omega)).trans cS7⟩, below_step hw1 hB (by have := hB.size; omega), by omega⟩, (Or.inr (Or.inr (Or.inr (Or.inr (Or.inr (Or.inr (Or.inr (Or.inr (Or.inr (Or.inr (Or.inr (Or.inr (Or.inr (Or.inr (Or.inl ⟨n6, by rfl, by rfl, ⟨⟨zn6, by omega⟩, (hc1 _ _ (by omega)).trans dn6_0, (hf1 _ _ (by omega)).trans fn6_0, (hc1 _ _ (by omega)).trans dn6_1, (hf1 _ _ (by omega)).trans fn6_1⟩⟩)))))))))))))))⟩
  · left
    refine ⟨[19], by kernel_rfl, by simp, ?_⟩
    simp only [Act.put, List.getElem_toArray, List.getElem_cons_succ, List.getElem_cons_zero, List.setIfInBounds_toArray, List.set_cons_zero, List.set_cons_succ]
    refine all_cons ?_ (all_nil)
    · refine wpOp_step rfl (fun Kq hKq => ?_)
      go_simp
      have hw1 : Below W.heap.size W (W.alloc (.cells #[.int .i64 0, .int .i64 0] 106)) := by (repeat' (first | (with_reducible exact Below.refl _ _) | (with_reducible assumption) | (with_reducible refine Below.alloc ?_ ?_ _) | (with_reducible refine Below.drew ?_) | (with_reducible refine below_drewN ?_ _) | (with_reducible refine Below.setCell ?_ ?_ _) | (with_reducible refine below_step (by with_reducible assumption) ?_ ?_) | (with_reducible exact Below.size (by with_reducible assumption)) | go_size))
      have hz1 : (W.alloc (.cells #[.int .i64 0, .int .i64 0] 106)).heap.size = W.heap.size + 1 := by simp
      have hc1 := (bcell hw1).1
      have hf1 := (bcell hw1).2
      refine hKq _ _ ?_
      exact ⟨⟨⟨(hc1 _ _ (by omega)).trans cS0, (hc1 _ _ (by omega)).trans cS1, (hc1 _ _ (by omega)).trans cS2, (hc1 _ _ (by omega)).trans cS3, (hc1 _ _ (by omega)).trans cS4, (hc1 _ _ (by omega)).trans cS5, (hf1 _ _ (by omega)).trans cS6, (hf1 _ _ (by omega)).trans cS7⟩, below_step hw1 hB (by have := hB.size; omega), by omega⟩, (Or.inr (Or.inr (Or.inr (Or.inr (Or.inr (Or.inr (Or.inr (Or.inr (Or.inr (Or.inr (Or.inr (Or.inr (Or.inr (Or.inr (Or.inr ⟨W.heap.size, by rfl, by rfl, ⟨⟨by omega, by omega⟩, by simp [go_sem], by simp [go_sem], by simp [go_sem], by simp [go_sem]⟩⟩)))))))))))))))⟩
  · left
    refine ⟨[18], by kernel_rfl, by simp, ?_⟩
    simp only [Act.put, List.getElem_toArray, List.getElem_cons_succ, List.getElem_cons_zero, List.setIfInBounds_toArray, List.set_cons_zero, List.set_cons_succ]
    refine all_cons ?_ (all_nil)
    · refine wpOp_step rfl (fun Kq hKq => ?_)
      go_simp
      have hw1 : Below W.heap.size W W := Below.refl _ _
      have hz1 := hw1.size
      have hc1 := (bcell hw1).1
      have hf1 := (bcell hw1).2
      refine hKq _ _ ?_
      exact ⟨⟨⟨(hc1 _ _ (by omega)).trans cS0, (hc1 _ _ (by omega)).trans cS1, (hc1 _ _ (by omega)).trans cS2, (hc1 _ _ (by omega)).trans cS3, (hc1 _ _ (by omega)).trans cS4, (hc1 _ _ (by omega)).trans cS5, (hf1 _ _ (by omega)).trans cS6, (hf1 _ _ (by omega)).trans cS7⟩, below_step hw1 hB (by have := hB.size; omega), by omega⟩, (Or.inr (Or.inr (Or.inr (Or.inr (Or.inr (Or.inr (Or.inr (Or.inr (Or.inr (Or.inr (Or.inr (Or.inr (Or.inr (Or.inr (Or.inr ⟨n6, by rfl, by rfl, ⟨⟨zn6, by omega⟩, (hc1 _ _ (by omega)).trans dn6_0, (hf1 _ _ (by omega)).trans fn6_0, (hc1 _ _ (by omega)).trans dn6_1, (hf1 _ _ (by omega)).trans fn6_1⟩⟩)))))))))))))))⟩
  right
  refine wpAnyH_fuel 1 (by rfl) ?_
  simp only [Act.put, List.getElem_toArray, List.getElem_cons_succ, List.getElem_cons_zero, List.setIfInBounds_toArray, List.set_cons_zero, List.set_cons_succ]
  have : ¬ n6 = w.heap.size := by omega
  have : ¬ w.heap.size = n6 := by omega
  have : ¬ n6 = w.heap.size + 1 := by omega
  have : ¬ w.heap.size + 1 = n6 := by omega
  have : ¬ n6 = w.heap.size + 1 + 1 := by omega
  have : ¬ w.heap.size + 1 + 1 = n6 := by omega
  clear hH1
  refine wpAnyH_ready (rs := [20]) (by kernel_rfl) (by simp) ?_
  refine AllReadyH.cons rfl (fun Kq hKq => ?_) AllReadyH.nil
  go_simp
  refine hKq.out _ _ ?_ (fun hH2 => ?_)
  · (first | (refine ⟨?_, ?_, ?_, ?_, ?_, ?_, ?_, ?_⟩ <;> (simp only [World.cell?_setCell_far, World.frozen?_setCell, *, ne_eq, not_false_eq_true]); done) | (go_keep; done) | (simp [*, go_sem]; done))
  clear hKq Kq
  have hZ1 := hZ
  refine wpAnyH_fin (T := fun W => (W.cell? ⟨w.heap.size, 0, none⟩ = some (.int .i64 (f)) ∧ W.cell? ⟨w.heap.size, 1, none⟩ = some (.int .i64 (s)) ∧ W.cell? ⟨w.heap.size + 1, 0, none⟩ = some (.int .i64 (lo)) ∧ W.cell? ⟨w.heap.size + 1, 1, none⟩ = some (.int .i64 (hi)) ∧ W.cell? ⟨w.heap.size + 1 + 1, 0, none⟩ = some (.int .i64 (0)) ∧ W.cell? ⟨w.heap.size + 1 + 1, 1, none⟩ = some (.int .i64 (0)) ∧ W.frozen? ⟨w.heap.size + 1 + 1, 0, none⟩ = false ∧ W.frozen? ⟨w.heap.size + 1 + 1, 1, none⟩ = false) ∧ (W.cell? ⟨n6, 0, none⟩ = some (.int .i64 (max 0 A)) ∧ W.cell? ⟨n6, 1, none⟩ = some (.int .i64 (min 60 B))) ∧ (n6 < W.heap.size ∧ (w1.heap.size) ≤ W.heap.size) ∧ Below w.heap.size w W) (by kernel_rfl) ⟨hH2, ?_, ?_, ?_⟩ (fun W1 hT => ?_)
  · first | (refine ⟨?_, ?_⟩ <;> (simp only [World.cell?_setCell_far, *, ne_eq, not_false_eq_true]); done) | (clear hH2; simp [*, go_sem]; done) | (simp [go_sem, *]; done)
  · refine ⟨?_, ?_⟩ <;> (simp only [World.size_setCell]; omega)
  · (repeat' (first | (with_reducible exact Below.refl _ _) | (with_reducible assumption) | (with_reducible refine Below.alloc ?_ ?_ _) | (with_reducible refine Below.drew ?_) | (with_reducible refine below_drewN ?_ _) | (with_reducible refine Below.setCell ?_ ?_ _) | (with_reducible refine below_step (by with_reducible assumption) ?_ ?_) | (with_reducible exact Below.size (by with_reducible assumption)) | go_size))
  obtain ⟨⟨gS0, gS1, gS2, gS3, gS4, gS5, gS6, gS7⟩, ⟨gF0, gF1⟩, ⟨gZ0, gZ1⟩, hB1⟩ := hT
  clear hSW' hH2 hB hZ hZ1 cS0 cS1 cS2 cS3 cS4 cS5 cS6 cS7 zn6 yn6 dn6_0 fn6_0 dn6_1 fn6_1
  by_cases hm : max 0 A ≤ min 60 B
  · have hm2 : decide (min 60 B < max 0 A) = false := decide_eq_false (by omega)
    go_wp2
    refine bodyPost_ret (by simp [results, Try.results80, go_sem, *]; rfl) rfl ?_
    exact ⟨by simp [hm], by (repeat' (first | (with_reducible exact Below.refl _ _) | (with_reducible assumption) | (with_reducible refine Below.alloc ?_ ?_ _) | (with_reducible refine Below.drew ?_) | (with_reducible refine below_drewN ?_ _) | (with_reducible refine Below.setCell ?_ ?_ _) | (with_reducible refine below_step (by with_reducible assumption) ?_ ?_) | (with_reducible exact Below.size (by with_reducible assumption)) | go_size))⟩
  · have hm2 : decide (min 60 B < max 0 A) = true := decide_eq_true (by omega)
    go_wp2
    refine bodyPost_ret (by simp [results, Try.results80, go_sem, *]; rfl) rfl ?_
    exact ⟨by simp [hm], by (repeat' (first | (with_reducible exact Below.refl _ _) | (with_reducible assumption) | (with_reducible refine Below.alloc ?_ ?_ _) | (with_reducible refine Below.drew ?_) | (with_reducible refine below_drewN ?_ _) | (with_reducible refine Below.setCell ?_ ?_ _) | (with_reducible refine below_step (by with_reducible assumption) ?_ ?_) | (with_reducible exact Below.size (by with_reducible assumption)) | go_size))⟩
end Go.Proofs.Ythgnemkfaiejbaa
