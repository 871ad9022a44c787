/-
  ANALYTIC and ENVELOPE of traces that are not right.
-/
import Derived.Test.YthgnemkfaiejbaaTErr
import Derived.Test.YthgnemkfaiejbaaTEnv
import Derived.Test.YthgnemkfaiejbaaTPeak
set_option linter.unusedVariables false
set_option linter.unusedSimpArgs false
namespace Go.Proofs.Ythgnemkfaiejbaa
open Go.RowKit

set_option maxRecDepth 100000 in
set_option maxHeartbeats 2000000 in
theorem analytic_err (x : Nat → Int) (w : World) (hx : Hid (∀ k, k < 64 → (x k).natAbs < 2 ^ 24)) (h : tE x 64 ≠ 0) :
    Calls Try.prog 60 #[.agg (tC x)] w fun e w' => e = .returned (.tuple #[.agg (aC (fun _ => 0) fun _ => 0), .int .i64 (tE x 64)]) ∧ Below w.heap.size w w' := by
  have K1 := Lib.hid (fun W => traceError_any x W hx)
  have hT : (tE x 64 != 0) = true := by simpa using h
  have hs := Lib.hid (tC_size x)
  have hzs := Lib.hid (aC_size (fun _ => 0) fun _ => 0)
  have hzo := Lib.hid (aC_one (fun _ => 0) fun _ => 0)
  have HZV := Lib.hid zero_ana
  clear h
  generalize tE x 64 = E at *
  generalize tC x = c at *
  generalize (aC (fun _ => 0) fun _ => 0) = z at *
  go_enter Try.func60, Try.ntmps60
  go_wp2_with (first | (refine wpl_alloc rfl 92 z rfl (HZV.out _) ?_) | (refine wpl_load rfl 26 26 _ w.heap.size c (0, 0) _ rfl rfl Try.underlying26 rfl (by rw [hs.out]; exact infoTrace) (block_alloc (block_alloc (heap_alloc_last w _))) ?_))
  refine abs_calls (fun w1 hw1 => ?_)
  have hB1 : Below w.heap.size w w1 := by rw [hw1]; (repeat' (first | (with_reducible exact Below.refl _ _) | (with_reducible assumption) | (with_reducible refine Below.alloc ?_ ?_ _) | (with_reducible refine Below.drew ?_) | (with_reducible refine below_drewN ?_ _) | (with_reducible refine Below.setCell ?_ ?_ _) | (with_reducible refine below_step (by with_reducible assumption) ?_ ?_) | (with_reducible exact Below.size (by with_reducible assumption)) | go_size))
  have hz1 : w1.heap.size = w.heap.size + 1 + 1 + 1 := by rw [hw1]; simp
  have hg1 : w1.heap[w.heap.size + 1]? = some (.cells z 92 (0, 0)) := by
    rw [hw1]
    have := heap_alloc_last (w.alloc (.cells c 26)) (.cells z 92)
    rw [show (w.alloc (.cells c 26)).heap.size = w.heap.size + 1 by simp] at this
    exact block_alloc this
  have hg2 : w1.heap[w.heap.size + 1 + 1]? = some (.cells z 92 (0, 0)) := by
    rw [hw1]
    have := heap_alloc_last ((w.alloc (.cells c 26)).alloc (.cells z 92)) (.cells z 92)
    rw [show ((w.alloc (.cells c 26)).alloc (.cells z 92)).heap.size = w.heap.size + 1 + 1 by simp] at this
    exact this
  clear hw1
  refine (K1.out _).mono ?_
  rintro e w2 ⟨rfl, hw2⟩
  have hz2 := hw2.size
  have kg1 := block_below hw2 (by omega) hg1
  have kg2 := block_below hw2 (by omega) hg2
  have hB2 : Below w.heap.size w w2 := by (repeat' (first | (with_reducible exact Below.refl _ _) | (with_reducible assumption) | (with_reducible refine Below.alloc ?_ ?_ _) | (with_reducible refine Below.drew ?_) | (with_reducible refine below_drewN ?_ _) | (with_reducible refine Below.setCell ?_ ?_ _) | (with_reducible refine below_step (by with_reducible assumption) ?_ ?_) | (with_reducible exact Below.size (by with_reducible assumption)) | go_size))
  clear hg1 hg2 hw2 hB1
  go_wp2_with (first | (refine wpl_load rfl 92 92 _ (w.heap.size + 1 + 1) z (0, 0) _ rfl rfl Try.underlying92 rfl (by rw [hzs.out]; exact infoAna) kg2 ?_) | (refine wpl_store rfl 92 92 _ _ (w.heap.size + 1) z z rfl rfl rfl (by rw [hzs.out]; exact infoAna) rfl hzo.out kg1 ?_))
  refine bodyPost_ret (v := .tuple #[.agg z, .int .i64 E]) ?_ rfl ⟨rfl, below_setRow hB2 z (by omega)⟩
  rw [results_cell_tmp (p := 2) (u := 3) (ty := 92) rfl]
  have hl : (loadVar 92 ⟨w.heap.size + 1, 0, none⟩).run Try.prog (w2.setRow (w.heap.size + 1) z) = .ok (.agg z) _ := run_loadVar_row _ _ 92 92 z (0, 0) _ (block_setRow kg1) Try.underlying92 rfl (by rw [hzs.out]; exact infoAna)
  change ((loadVar 92 ⟨w.heap.size + 1, 0, none⟩).run Try.prog _).andThen _ = _
  rw [hl]
  rfl
set_option maxRecDepth 100000 in
set_option maxHeartbeats 2000000 in
theorem envelope_err (x : Nat → Int) (w : World) (hx : Hid (∀ k, k < 64 → (x k).natAbs < 2 ^ 24)) (h : tE x 64 ≠ 0) :
    Calls Try.prog 61 #[.agg (tC x)] w fun e w' => e = .returned (.tuple #[.agg (sC fun _ => 0), .int .i64 (tE x 64)]) ∧ Below w.heap.size w w' := by
  have K1 := Lib.hid (fun W => analytic_err x W hx h)
  have hT : (tE x 64 != 0) = true := by simpa using h
  have hs := Lib.hid (tC_size x)
  have hzA := Lib.hid (aC_size (fun _ => 0) fun _ => 0)
  have hoA := Lib.hid (aC_one (fun _ => 0) fun _ => 0)
  have HZA := Lib.hid zero_ana
  have hzs := Lib.hid (sC_size fun _ => 0)
  have hzo := Lib.hid (sC_one fun _ => 0)
  have HZV := Lib.hid zero_sq
  clear h
  generalize tE x 64 = E at *
  generalize tC x = c at *
  generalize (aC (fun _ => 0) fun _ => 0) = zA at *
  generalize (sC fun _ => 0) = z at *
  go_enter Try.func61, Try.ntmps61
  go_wp2_with (first | (refine wpl_alloc rfl 95 z rfl (HZV.out _) ?_) | (refine wpl_load rfl 26 26 _ w.heap.size c (0, 0) _ rfl rfl Try.underlying26 rfl (by rw [hs.out]; exact infoTrace) (block_alloc (block_alloc (heap_alloc_last w _))) ?_))
  refine abs_calls (fun w1 hw1 => ?_)
  have hB1 : Below w.heap.size w w1 := by rw [hw1]; (repeat' (first | (with_reducible exact Below.refl _ _) | (with_reducible assumption) | (with_reducible refine Below.alloc ?_ ?_ _) | (with_reducible refine Below.drew ?_) | (with_reducible refine below_drewN ?_ _) | (with_reducible refine Below.setCell ?_ ?_ _) | (with_reducible refine below_step (by with_reducible assumption) ?_ ?_) | (with_reducible exact Below.size (by with_reducible assumption)) | go_size))
  have hz1 : w1.heap.size = w.heap.size + 1 + 1 + 1 := by rw [hw1]; simp
  have hg1 : w1.heap[w.heap.size + 1]? = some (.cells z 95 (0, 0)) := by
    rw [hw1]
    have := heap_alloc_last (w.alloc (.cells c 26)) (.cells z 95)
    rw [show (w.alloc (.cells c 26)).heap.size = w.heap.size + 1 by simp] at this
    exact block_alloc this
  have hg2 : w1.heap[w.heap.size + 1 + 1]? = some (.cells z 95 (0, 0)) := by
    rw [hw1]
    have := heap_alloc_last ((w.alloc (.cells c 26)).alloc (.cells z 95)) (.cells z 95)
    rw [show ((w.alloc (.cells c 26)).alloc (.cells z 95)).heap.size = w.heap.size + 1 + 1 by simp] at this
    exact this
  clear hw1
  refine (K1.out _).mono ?_
  rintro e w2 ⟨rfl, hw2⟩
  have hz2 := hw2.size
  have kg1 := block_below hw2 (by omega) hg1
  have kg2 := block_below hw2 (by omega) hg2
  have hB2 : Below w.heap.size w w2 := by (repeat' (first | (with_reducible exact Below.refl _ _) | (with_reducible assumption) | (with_reducible refine Below.alloc ?_ ?_ _) | (with_reducible refine Below.drew ?_) | (with_reducible refine below_drewN ?_ _) | (with_reducible refine Below.setCell ?_ ?_ _) | (with_reducible refine below_step (by with_reducible assumption) ?_ ?_) | (with_reducible exact Below.size (by with_reducible assumption)) | go_size))
  clear hg1 hg2 hw2 hB1
  go_wp2_with (first | (refine wpl_alloc rfl 92 zA rfl (HZA.out _) ?_) | (refine wpl_store_new rfl 92 _ _ zA zA rfl rfl rfl (by rw [hzA.out]; exact infoAna) rfl hoA.out ?_) | (refine wpl_load rfl 95 95 _ (w.heap.size + 1 + 1) z (0, 0) _ rfl rfl Try.underlying95 rfl (by rw [hzs.out]; exact infoSq) (block_alloc kg2) ?_) | (refine wpl_store rfl 95 95 _ _ (w.heap.size + 1) z z rfl rfl rfl (by rw [hzs.out]; exact infoSq) rfl hzo.out (block_alloc kg1) ?_))
  refine bodyPost_ret (v := .tuple #[.agg z, .int .i64 E]) ?_ rfl ⟨rfl, below_setRow (by (repeat' (first | (with_reducible exact Below.refl _ _) | (with_reducible assumption) | (with_reducible refine Below.alloc ?_ ?_ _) | (with_reducible refine Below.drew ?_) | (with_reducible refine below_drewN ?_ _) | (with_reducible refine Below.setCell ?_ ?_ _) | (with_reducible refine below_step (by with_reducible assumption) ?_ ?_) | (with_reducible exact Below.size (by with_reducible assumption)) | go_size))) z (by omega)⟩
  rw [results_cell_tmp (p := 2) (u := 3) (ty := 95) rfl]
  have hl : (loadVar 95 ⟨w.heap.size + 1, 0, none⟩).run Try.prog ((w2.alloc (.cells zA 92)).setRow (w.heap.size + 1) z) = .ok (.agg z) _ := run_loadVar_row _ _ 95 95 z (0, 0) _ (block_setRow (block_alloc kg1)) Try.underlying95 rfl (by rw [hzs.out]; exact infoSq)
  change ((loadVar 95 ⟨w.heap.size + 1, 0, none⟩).run Try.prog _).andThen _ = _
  rw [hl]
  rfl
end Go.Proofs.Ythgnemkfaiejbaa
