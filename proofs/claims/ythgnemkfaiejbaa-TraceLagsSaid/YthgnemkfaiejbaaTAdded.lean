/-
  ADDED: sums of traces.
-/
import Derived.Test.YthgnemkfaiejbaaTAdd
set_option linter.unusedVariables false
set_option linter.unusedSimpArgs false
namespace Go.Proofs.Ythgnemkfaiejbaa
open Go.RowKit

def adE (x y : Nat → Int) : Int := frst [tE x 64, tE y 64]
def sumT (x y : Nat → Int) : Nat → Int := fun k => x k + y k
set_option maxRecDepth 100000 in
set_option maxHeartbeats 2000000 in
theorem added_err (x y : Nat → Int) (w : World) (hx : Hid (∀ k, k < 64 → (x k).natAbs < 2 ^ 24)) (hy : Hid (∀ k, k < 64 → (y k).natAbs < 2 ^ 24)) (h : adE x y ≠ 0) :
    Calls Try.prog 52 #[.agg (tC x), .agg (tC y)] w fun e w' => e = .returned (.tuple #[.agg (tC fun _ => 0), .int .i64 (adE x y)]) ∧ Below w.heap.size w w' := by
  have HE := Lib.hid (show adE x y = frst [tE x 64, tE y 64] from rfl)
  have hT : (adE x y != 0) = true := by simpa using h
  have K1 := Lib.hid (fun W => traceError_any x W hx)
  have K2 := Lib.hid (fun W => traceError_any y W hy)
  have hC := Lib.hid (show (Try.prog.info? 26).map (·.size) = some (tC x).size by rw [tC_size]; exact infoTrace)
  have hD := Lib.hid (show (Try.prog.info? 26).map (·.size) = some (tC y).size by rw [tC_size]; exact infoTrace)
  have hs0 := Lib.hid (tC_size fun _ => 0)
  have ho0 := Lib.hid (tC_one fun _ => 0)
  have HZ := Lib.hid zero_trace
  generalize adE x y = T at *
  generalize tC x = c at *
  generalize tC y = d at *
  generalize (tC fun _ => 0) = z at *
  generalize tE x 64 = ex at *
  generalize tE y 64 = ey at *
  go_enter Try.func52, Try.ntmps52
  go_wp2_with (refine wpl_alloc rfl 26 z rfl (HZ.out _) ?_)
  refine wp_region_held_drew (S := fun w' => w'.heap[w.heap.size]? = some (.cells (c) 26 (0, 0)) ∧ w'.heap[w.heap.size + 1]? = some (.cells (d) 26 (0, 0)) ∧ w'.heap[w.heap.size + 1 + 1]? = some (.cells (z) 26 (0, 0))) (by kernel_rfl) ?_ (fun hH1 => ?_)
  · (first | assumption | (refine ⟨?_, ?_, ?_⟩ <;> (first | assumption | ((repeat (first | assumption | (refine heap_alloc_at ?_; (first | rfl | (simp only [World.size_alloc, World.size_drew, World.size_setCell, size_drewN]; done))) | refine block_alloc ?_ | refine Buf.alloc ?_ _ | refine Buf.drew ?_ | refine Buf.setCell ?_ (by omega) _ _)); done) | (go_keep; done) | (simp [*, go_sem]; done))))
  refine wpAnyH_pure (i := 0) (v := ?_) rfl (by kernel_rfl) (by kernel_rfl) (by kernel_rfl) (fun _ _ _ h => h) (by rfl) (by assumption) ?_ ?_
  rotate_left
  · (intro w hSw; (try dsimp only at hSw); refine exec_load_arr 26 (p := .tmp 2) ?_ ?_ Try.underlying26 (hC.out) (by repeat (first | exact hSw | exact hSw.1 | replace hSw := hSw.2)) <;> rfl)
  simp only [Act.put, List.getElem_toArray, List.getElem_cons_succ, List.getElem_cons_zero, List.setIfInBounds_toArray, List.set_cons_zero, List.set_cons_succ]
  refine wpAnyH_pure (i := 2) (v := ?_) rfl (by kernel_rfl) (by kernel_rfl) (by kernel_rfl) (fun _ _ _ h => h) (by rfl) (by assumption) ?_ ?_
  rotate_left
  · (intro w hSw; (try dsimp only at hSw); refine exec_load_arr 26 (p := .tmp 3) ?_ ?_ Try.underlying26 (hD.out) (by repeat (first | exact hSw | exact hSw.1 | replace hSw := hSw.2)) <;> rfl)
  simp only [Act.put, List.getElem_toArray, List.getElem_cons_succ, List.getElem_cons_zero, List.setIfInBounds_toArray, List.set_cons_zero, List.set_cons_succ]
  refine wpAnyH_ready (rs := [1]) (by kernel_rfl) (by simp) ?_
  refine AllReadyH.cons rfl (fun Kq hKq => ?_) AllReadyH.nil
  go_simp
  refine (K1.out _).mono ?_
  (rintro e w1 ⟨rfl, hw1⟩)
  obtain ⟨hcw1, hfw1, hlw1, hmw1, hnw1⟩ := bcell3 hw1
  have hzw1 := hw1.size
  (try simp only [World.size_alloc, World.size_setCell, World.size_drew, size_drewN] at hzw1)
  have ca1_0 : w1.heap[w.heap.size]? = some (.cells (c) 26 (0, 0)) := block_below0 hw1 (by first | assumption | (repeat (first | assumption | (refine heap_alloc_at ?_; (first | rfl | (simp only [World.size_alloc, World.size_drew, World.size_setCell, size_drewN]; done))) | refine block_alloc ?_)))
  have cb1_0 : w1.heap[w.heap.size + 1]? = some (.cells (d) 26 (0, 0)) := block_below0 hw1 (by first | assumption | (repeat (first | assumption | (refine heap_alloc_at ?_; (first | rfl | (simp only [World.size_alloc, World.size_drew, World.size_setCell, size_drewN]; done))) | refine block_alloc ?_)))
  have cr1_0 : w1.heap[w.heap.size + 1 + 1]? = some (.cells (z) 26 (0, 0)) := block_below0 hw1 (by first | assumption | (repeat (first | assumption | (refine heap_alloc_at ?_; (first | rfl | (simp only [World.size_alloc, World.size_drew, World.size_setCell, size_drewN]; done))) | refine block_alloc ?_)))
  refine hKq.out _ _ ?_ (fun hH2 => ?_)
  · (first | assumption | (refine ⟨?_, ?_, ?_⟩ <;> (first | assumption | ((repeat (first | assumption | (refine heap_alloc_at ?_; (first | rfl | (simp only [World.size_alloc, World.size_drew, World.size_setCell, size_drewN]; done))) | refine block_alloc ?_ | refine Buf.alloc ?_ _ | refine Buf.drew ?_ | refine Buf.setCell ?_ (by omega) _ _)); done) | (go_keep; done) | (simp [*, go_sem]; done))))
  clear hKq Kq
  clear hH1
  refine wpAnyH_ready (rs := [3]) (by kernel_rfl) (by simp) ?_
  refine AllReadyH.cons rfl (fun Kq hKq => ?_) AllReadyH.nil
  go_simp
  refine (K2.out _).mono ?_
  (rintro e w3 ⟨rfl, hw3⟩)
  obtain ⟨hcw3, hfw3, hlw3, hmw3, hnw3⟩ := bcell3 hw3
  have hzw3 := hw3.size
  (try simp only [World.size_alloc, World.size_setCell, World.size_drew, size_drewN] at hzw3)
  have ca3_0 : w3.heap[w.heap.size]? = some (.cells (c) 26 (0, 0)) := block_below0 hw3 (by first | assumption | (repeat (first | assumption | (refine heap_alloc_at ?_; (first | rfl | (simp only [World.size_alloc, World.size_drew, World.size_setCell, size_drewN]; done))) | refine block_alloc ?_)))
  clear ca1_0
  have cb3_0 : w3.heap[w.heap.size + 1]? = some (.cells (d) 26 (0, 0)) := block_below0 hw3 (by first | assumption | (repeat (first | assumption | (refine heap_alloc_at ?_; (first | rfl | (simp only [World.size_alloc, World.size_drew, World.size_setCell, size_drewN]; done))) | refine block_alloc ?_)))
  clear cb1_0
  have cr3_0 : w3.heap[w.heap.size + 1 + 1]? = some (.cells (z) 26 (0, 0)) := block_below0 hw3 (by first | assumption | (repeat (first | assumption | (refine heap_alloc_at ?_; (first | rfl | (simp only [World.size_alloc, World.size_drew, World.size_setCell, size_drewN]; done))) | refine block_alloc ?_)))
  clear cr1_0
  refine hKq.out _ _ ?_ (fun hH3 => ?_)
  · (first | assumption | (refine ⟨?_, ?_, ?_⟩ <;> (first | assumption | ((repeat (first | assumption | (refine heap_alloc_at ?_; (first | rfl | (simp only [World.size_alloc, World.size_drew, World.size_setCell, size_drewN]; done))) | refine block_alloc ?_ | refine Buf.alloc ?_ _ | refine Buf.drew ?_ | refine Buf.setCell ?_ (by omega) _ _)); done) | (go_keep; done) | (simp [*, go_sem]; done))))
  clear hKq Kq
  clear hH2
  refine wpAnyH_ready (rs := [4]) (by kernel_rfl) (by simp) ?_
  refine AllReadyH.cons rfl (fun Kq hKq => ?_) AllReadyH.nil
  go_simp
  refine hKq.out _ _ ?_ (fun hH4 => ?_)
  · (first | assumption | (refine ⟨?_, ?_, ?_⟩ <;> (first | assumption | ((repeat (first | assumption | (refine heap_alloc_at ?_; (first | rfl | (simp only [World.size_alloc, World.size_drew, World.size_setCell, size_drewN]; done))) | refine block_alloc ?_ | refine Buf.alloc ?_ _ | refine Buf.drew ?_ | refine Buf.setCell ?_ (by omega) _ _)); done) | (go_keep; done) | (simp [*, go_sem]; done))))
  clear hKq Kq
  clear hH3
  refine wpAnyH_ready (rs := [5]) (by kernel_rfl) (by simp) ?_
  refine AllReadyH.cons rfl (fun Kq hKq => ?_) AllReadyH.nil
  go_simp
  refine (first2 _ _ _ _ (cell_fresh _ _ _ _ _ _ rfl rfl) (cell_fresh _ _ _ _ _ _ rfl rfl)).mono ?_
  (rintro e w' ⟨rfl, rfl⟩)
  refine hKq.out _ _ ?_ (fun hH5 => ?_)
  · (first | assumption | (refine ⟨?_, ?_, ?_⟩ <;> (first | assumption | ((repeat (first | assumption | (refine heap_alloc_at ?_; (first | rfl | (simp only [World.size_alloc, World.size_drew, World.size_setCell, size_drewN]; done))) | refine block_alloc ?_ | refine Buf.alloc ?_ _ | refine Buf.drew ?_ | refine Buf.setCell ?_ (by omega) _ _)); done) | (go_keep; done) | (simp [*, go_sem]; done))))
  clear hKq Kq
  clear hH4
  refine wpAnyH_pure (i := 6) (v := ?_) rfl (by kernel_rfl) (by kernel_rfl) (by kernel_rfl) (fun _ _ _ h => h) (by rfl) (by assumption) ?_ ?_
  rotate_left
  · (intro w hSw; (try dsimp only at hSw); go_simp; (try with_reducible rfl))
  simp only [Act.put, List.getElem_toArray, List.getElem_cons_succ, List.getElem_cons_zero, List.setIfInBounds_toArray, List.set_cons_zero, List.set_cons_succ]
  refine wpAnyH_done (by kernel_rfl) ?_ _
  rw [← HE.out]
  first | refine abs_calls (fun w4 hw4 => ?_) | refine abs_last (fun w4 hw4 => ?_)
  have hw40 : Below w.heap.size w w4 := by rw [hw4]; (repeat' (first | (with_reducible exact Below.refl _ _) | (with_reducible assumption) | (with_reducible refine Below.alloc ?_ ?_ _) | (with_reducible refine Below.drew ?_) | (with_reducible refine below_drewN ?_ _) | (with_reducible refine Below.setCell ?_ ?_ _) | (with_reducible refine below_step (by with_reducible assumption) ?_ ?_) | (with_reducible exact Below.size (by with_reducible assumption)) | go_size))
  have hzz4 := hw40.size
  have ca4_0 : w4.heap[w.heap.size]? = some (.cells (c) 26 (0, 0)) := by rw [hw4]; (repeat (first | assumption | (refine heap_alloc_at ?_; (first | rfl | (simp only [World.size_alloc, World.size_drew, World.size_setCell, size_drewN]; done))) | refine block_alloc ?_))
  have cb4_0 : w4.heap[w.heap.size + 1]? = some (.cells (d) 26 (0, 0)) := by rw [hw4]; (repeat (first | assumption | (refine heap_alloc_at ?_; (first | rfl | (simp only [World.size_alloc, World.size_drew, World.size_setCell, size_drewN]; done))) | refine block_alloc ?_))
  have cr4_0 : w4.heap[w.heap.size + 1 + 1]? = some (.cells (z) 26 (0, 0)) := by rw [hw4]; (repeat (first | assumption | (refine heap_alloc_at ?_; (first | rfl | (simp only [World.size_alloc, World.size_drew, World.size_setCell, size_drewN]; done))) | refine block_alloc ?_))
  clear ca3_0
  clear cb3_0
  clear cr3_0
  clear hw4
  go_wp2_with (first | (refine wpl_build0 rfl 26 z rfl (HZ.out _) Try.underlying26 (sz := 1) (by kernel_rfl) ?_) | (refine wpl_store rfl 26 26 _ _ (w.heap.size + 1 + 1) z z rfl rfl rfl (by rw [hs0.out]; exact infoTrace) rfl ho0.out cr4_0 ?_))
  refine bodyPost_ret (v := .tuple #[.agg z, .int .i64 T]) ?_ rfl ⟨rfl, below_setRow (by (repeat' (first | (with_reducible exact Below.refl _ _) | (with_reducible assumption) | (with_reducible refine Below.alloc ?_ ?_ _) | (with_reducible refine Below.drew ?_) | (with_reducible refine below_drewN ?_ _) | (with_reducible refine Below.setCell ?_ ?_ _) | (with_reducible refine below_step (by with_reducible assumption) ?_ ?_) | (with_reducible exact Below.size (by with_reducible assumption)) | go_size))) z (by omega)⟩
  rw [results_cell_tmp (p := 4) (u := 5) (ty := 26) rfl]
  have hl : (loadVar 26 ⟨w.heap.size + 1 + 1, 0, none⟩).run Try.prog (w4.setRow (w.heap.size + 1 + 1) z) = .ok (.agg z) _ := run_loadVar_row _ _ 26 26 z (0, 0) _ (block_setRow cr4_0) Try.underlying26 rfl (by rw [hs0.out]; exact infoTrace)
  change ((loadVar 26 ⟨w.heap.size + 1 + 1, 0, none⟩).run Try.prog _).andThen _ = _
  rw [hl]
  rfl
set_option maxRecDepth 100000 in
set_option maxHeartbeats 3000000 in
theorem added_large (x y : Nat → Int) (w : World) (hx : Hid (∀ k, k < 64 → (x k).natAbs ≤ 2047)) (hy : Hid (∀ k, k < 64 → (y k).natAbs ≤ 2047)) (h : 2047 < ldM (sumT x y) 64) :
    Calls Try.prog 52 #[.agg (tC x), .agg (tC y)] w fun e w' => e = .returned (.tuple #[.agg (tC fun _ => 0), .int .i64 8]) ∧ Below w.heap.size w w' := by
  have K1 := Lib.hid (fun W => traceError_ok x W hx)
  have K2 := Lib.hid (fun W => traceError_ok y W hy)
  have hmf : ∀ (fn : Fn) (first cap : Array Value) (w : World), (Instr.makeFunc fn first cap).run Try.prog w = .ok (.func fn first cap) w := fun _ _ _ _ => rfl
  have HF : Hid (Enters Try.prog 128) := Lib.hid (enters_of Try.func128 (by kernel_rfl) rfl)
  have KT : Hid (∀ (b1 b2 : Nat) (W : World), W.heap[b1]? = some (.cells (tC x) 26 (0, 0)) → W.heap[b2]? = some (.cells (tC y) 26 (0, 0)) → Calls Try.prog 127 #[.func (.func 128) #[] #[.pointer (some ⟨b1, 0, none⟩), .pointer (some ⟨b2, 0, none⟩)]] W fun e w' => e = .returned (.agg (tC (sumT x y))) ∧ Below W.heap.size W w') :=
    Lib.hid fun b1 b2 W h1 h2 => traceWith_bel (sumT x y) _ _ W HF (Lib.hid fun k hk W' hB => added1_any (x k) (y k) b1 b2 k W' hk (by have := hx.out k hk; omega) (by have := hy.out k hk; omega) ((cell_block (block_below0 hB h1)).trans (tC_get x hk)) ((cell_block (block_below0 hB h2)).trans (tC_get y hk)))
  have KL := Lib.hid (fun W => loudest_any (sumT x y) W (Lib.hid fun k hk => by have := hx.out k hk; have := hy.out k hk; unfold sumT; omega))
  have hC := Lib.hid (show (Try.prog.info? 26).map (·.size) = some (tC x).size by rw [tC_size]; exact infoTrace)
  have hD := Lib.hid (show (Try.prog.info? 26).map (·.size) = some (tC y).size by rw [tC_size]; exact infoTrace)
  have hs0 := Lib.hid (tC_size fun _ => 0)
  have ho0 := Lib.hid (tC_one fun _ => 0)
  have hs1 := Lib.hid (tC_size (sumT x y))
  have ho1 := Lib.hid (tC_one (sumT x y))
  have HZ := Lib.hid zero_trace
  have HFR := Lib.hid (show frst [0, 0] = 0 from rfl)
  have hgt : decide (2047 < ldM (sumT x y) 64) = true := decide_eq_true h
  clear h
  generalize ldM (sumT x y) 64 = L at *
  generalize tC (sumT x y) = s at *
  generalize tC x = c at *
  generalize tC y = d at *
  generalize (tC fun _ => 0) = z at *
  go_enter Try.func52, Try.ntmps52
  go_wp2_with (refine wpl_alloc rfl 26 z rfl (HZ.out _) ?_)
  refine wp_region_held_drew (S := fun w' => w'.heap[w.heap.size]? = some (.cells (c) 26 (0, 0)) ∧ w'.heap[w.heap.size + 1]? = some (.cells (d) 26 (0, 0)) ∧ w'.heap[w.heap.size + 1 + 1]? = some (.cells (z) 26 (0, 0))) (by kernel_rfl) ?_ (fun hH1 => ?_)
  · (first | assumption | (refine ⟨?_, ?_, ?_⟩ <;> (first | assumption | ((repeat (first | assumption | (refine heap_alloc_at ?_; (first | rfl | (simp only [World.size_alloc, World.size_drew, World.size_setCell, size_drewN]; done))) | refine block_alloc ?_ | refine Buf.alloc ?_ _ | refine Buf.drew ?_ | refine Buf.setCell ?_ (by omega) _ _)); done) | (go_keep; done) | (simp [*, go_sem]; done))))
  refine wpAnyH_pure (i := 0) (v := ?_) rfl (by kernel_rfl) (by kernel_rfl) (by kernel_rfl) (fun _ _ _ h => h) (by rfl) (by assumption) ?_ ?_
  rotate_left
  · (intro w hSw; (try dsimp only at hSw); refine exec_load_arr 26 (p := .tmp 2) ?_ ?_ Try.underlying26 (hC.out) (by repeat (first | exact hSw | exact hSw.1 | replace hSw := hSw.2)) <;> rfl)
  simp only [Act.put, List.getElem_toArray, List.getElem_cons_succ, List.getElem_cons_zero, List.setIfInBounds_toArray, List.set_cons_zero, List.set_cons_succ]
  refine wpAnyH_pure (i := 2) (v := ?_) rfl (by kernel_rfl) (by kernel_rfl) (by kernel_rfl) (fun _ _ _ h => h) (by rfl) (by assumption) ?_ ?_
  rotate_left
  · (intro w hSw; (try dsimp only at hSw); refine exec_load_arr 26 (p := .tmp 3) ?_ ?_ Try.underlying26 (hD.out) (by repeat (first | exact hSw | exact hSw.1 | replace hSw := hSw.2)) <;> rfl)
  simp only [Act.put, List.getElem_toArray, List.getElem_cons_succ, List.getElem_cons_zero, List.setIfInBounds_toArray, List.set_cons_zero, List.set_cons_succ]
  refine wpAnyH_ready (rs := [1]) (by kernel_rfl) (by simp) ?_
  refine AllReadyH.cons rfl (fun Kq hKq => ?_) AllReadyH.nil
  go_simp
  refine (K1.out _).mono ?_
  (rintro e w1 ⟨rfl, hw1⟩)
  obtain ⟨hcw1, hfw1, hlw1, hmw1, hnw1⟩ := bcell3 hw1
  have hzw1 := hw1.size
  (try simp only [World.size_alloc, World.size_setCell, World.size_drew, size_drewN] at hzw1)
  have ca1_0 : w1.heap[w.heap.size]? = some (.cells (c) 26 (0, 0)) := block_below0 hw1 (by first | assumption | (repeat (first | assumption | (refine heap_alloc_at ?_; (first | rfl | (simp only [World.size_alloc, World.size_drew, World.size_setCell, size_drewN]; done))) | refine block_alloc ?_)))
  have cb1_0 : w1.heap[w.heap.size + 1]? = some (.cells (d) 26 (0, 0)) := block_below0 hw1 (by first | assumption | (repeat (first | assumption | (refine heap_alloc_at ?_; (first | rfl | (simp only [World.size_alloc, World.size_drew, World.size_setCell, size_drewN]; done))) | refine block_alloc ?_)))
  have cr1_0 : w1.heap[w.heap.size + 1 + 1]? = some (.cells (z) 26 (0, 0)) := block_below0 hw1 (by first | assumption | (repeat (first | assumption | (refine heap_alloc_at ?_; (first | rfl | (simp only [World.size_alloc, World.size_drew, World.size_setCell, size_drewN]; done))) | refine block_alloc ?_)))
  refine hKq.out _ _ ?_ (fun hH2 => ?_)
  · (first | assumption | (refine ⟨?_, ?_, ?_⟩ <;> (first | assumption | ((repeat (first | assumption | (refine heap_alloc_at ?_; (first | rfl | (simp only [World.size_alloc, World.size_drew, World.size_setCell, size_drewN]; done))) | refine block_alloc ?_ | refine Buf.alloc ?_ _ | refine Buf.drew ?_ | refine Buf.setCell ?_ (by omega) _ _)); done) | (go_keep; done) | (simp [*, go_sem]; done))))
  clear hKq Kq
  clear hH1
  refine wpAnyH_ready (rs := [3]) (by kernel_rfl) (by simp) ?_
  refine AllReadyH.cons rfl (fun Kq hKq => ?_) AllReadyH.nil
  go_simp
  refine (K2.out _).mono ?_
  (rintro e w3 ⟨rfl, hw3⟩)
  obtain ⟨hcw3, hfw3, hlw3, hmw3, hnw3⟩ := bcell3 hw3
  have hzw3 := hw3.size
  (try simp only [World.size_alloc, World.size_setCell, World.size_drew, size_drewN] at hzw3)
  have ca3_0 : w3.heap[w.heap.size]? = some (.cells (c) 26 (0, 0)) := block_below0 hw3 (by first | assumption | (repeat (first | assumption | (refine heap_alloc_at ?_; (first | rfl | (simp only [World.size_alloc, World.size_drew, World.size_setCell, size_drewN]; done))) | refine block_alloc ?_)))
  clear ca1_0
  have cb3_0 : w3.heap[w.heap.size + 1]? = some (.cells (d) 26 (0, 0)) := block_below0 hw3 (by first | assumption | (repeat (first | assumption | (refine heap_alloc_at ?_; (first | rfl | (simp only [World.size_alloc, World.size_drew, World.size_setCell, size_drewN]; done))) | refine block_alloc ?_)))
  clear cb1_0
  have cr3_0 : w3.heap[w.heap.size + 1 + 1]? = some (.cells (z) 26 (0, 0)) := block_below0 hw3 (by first | assumption | (repeat (first | assumption | (refine heap_alloc_at ?_; (first | rfl | (simp only [World.size_alloc, World.size_drew, World.size_setCell, size_drewN]; done))) | refine block_alloc ?_)))
  clear cr1_0
  refine hKq.out _ _ ?_ (fun hH3 => ?_)
  · (first | assumption | (refine ⟨?_, ?_, ?_⟩ <;> (first | assumption | ((repeat (first | assumption | (refine heap_alloc_at ?_; (first | rfl | (simp only [World.size_alloc, World.size_drew, World.size_setCell, size_drewN]; done))) | refine block_alloc ?_ | refine Buf.alloc ?_ _ | refine Buf.drew ?_ | refine Buf.setCell ?_ (by omega) _ _)); done) | (go_keep; done) | (simp [*, go_sem]; done))))
  clear hKq Kq
  clear hH2
  refine wpAnyH_ready (rs := [4]) (by kernel_rfl) (by simp) ?_
  refine AllReadyH.cons rfl (fun Kq hKq => ?_) AllReadyH.nil
  go_simp
  refine hKq.out _ _ ?_ (fun hH4 => ?_)
  · (first | assumption | (refine ⟨?_, ?_, ?_⟩ <;> (first | assumption | ((repeat (first | assumption | (refine heap_alloc_at ?_; (first | rfl | (simp only [World.size_alloc, World.size_drew, World.size_setCell, size_drewN]; done))) | refine block_alloc ?_ | refine Buf.alloc ?_ _ | refine Buf.drew ?_ | refine Buf.setCell ?_ (by omega) _ _)); done) | (go_keep; done) | (simp [*, go_sem]; done))))
  clear hKq Kq
  clear hH3
  refine wpAnyH_ready (rs := [5]) (by kernel_rfl) (by simp) ?_
  refine AllReadyH.cons rfl (fun Kq hKq => ?_) AllReadyH.nil
  go_simp
  refine (first2 _ _ _ _ (cell_fresh _ _ _ _ _ _ rfl rfl) (cell_fresh _ _ _ _ _ _ rfl rfl)).mono ?_
  (rintro e w' ⟨rfl, rfl⟩)
  refine hKq.out _ _ ?_ (fun hH5 => ?_)
  · (first | assumption | (refine ⟨?_, ?_, ?_⟩ <;> (first | assumption | ((repeat (first | assumption | (refine heap_alloc_at ?_; (first | rfl | (simp only [World.size_alloc, World.size_drew, World.size_setCell, size_drewN]; done))) | refine block_alloc ?_ | refine Buf.alloc ?_ _ | refine Buf.drew ?_ | refine Buf.setCell ?_ (by omega) _ _)); done) | (go_keep; done) | (simp [*, go_sem]; done))))
  clear hKq Kq
  clear hH4
  refine wpAnyH_pure (i := 6) (v := ?_) rfl (by kernel_rfl) (by kernel_rfl) (by kernel_rfl) (fun _ _ _ h => h) (by rfl) (by assumption) ?_ ?_
  rotate_left
  · (intro w hSw; (try dsimp only at hSw); go_simp; (try with_reducible rfl))
  simp only [Act.put, List.getElem_toArray, List.getElem_cons_succ, List.getElem_cons_zero, List.setIfInBounds_toArray, List.set_cons_zero, List.set_cons_succ]
  refine wpAnyH_done (by kernel_rfl) ?_ _
  rw [HFR.out]
  first | refine abs_calls (fun w4 hw4 => ?_) | refine abs_last (fun w4 hw4 => ?_)
  have hw40 : Below w.heap.size w w4 := by rw [hw4]; (repeat' (first | (with_reducible exact Below.refl _ _) | (with_reducible assumption) | (with_reducible refine Below.alloc ?_ ?_ _) | (with_reducible refine Below.drew ?_) | (with_reducible refine below_drewN ?_ _) | (with_reducible refine Below.setCell ?_ ?_ _) | (with_reducible refine below_step (by with_reducible assumption) ?_ ?_) | (with_reducible exact Below.size (by with_reducible assumption)) | go_size))
  have hzz4 := hw40.size
  have ca4_0 : w4.heap[w.heap.size]? = some (.cells (c) 26 (0, 0)) := by rw [hw4]; (repeat (first | assumption | (refine heap_alloc_at ?_; (first | rfl | (simp only [World.size_alloc, World.size_drew, World.size_setCell, size_drewN]; done))) | refine block_alloc ?_))
  have cb4_0 : w4.heap[w.heap.size + 1]? = some (.cells (d) 26 (0, 0)) := by rw [hw4]; (repeat (first | assumption | (refine heap_alloc_at ?_; (first | rfl | (simp only [World.size_alloc, World.size_drew, World.size_setCell, size_drewN]; done))) | refine block_alloc ?_))
  have cr4_0 : w4.heap[w.heap.size + 1 + 1]? = some (.cells (z) 26 (0, 0)) := by rw [hw4]; (repeat (first | assumption | (refine heap_alloc_at ?_; (first | rfl | (simp only [World.size_alloc, World.size_drew, World.size_setCell, size_drewN]; done))) | refine block_alloc ?_))
  clear ca3_0
  clear cb3_0
  clear cr3_0
  clear hw4
  go_wp2_with fail; (refine (KT.out _ _ _ ca4_0 cb4_0).mono ?_; rintro e w5 ⟨rfl, hw5⟩; obtain ⟨hcw5, hfw5, hlw5, hmw5, hnw5⟩ := bcell3 hw5; have hzw5 := hw5.size; (try simp only [World.size_alloc, World.size_setCell, World.size_drew, size_drewN] at hzw5))
  have ca5_0 : w5.heap[w.heap.size]? = some (.cells (c) 26 (0, 0)) := block_below0 hw5 (by first | assumption | (repeat (first | assumption | (refine heap_alloc_at ?_; (first | rfl | (simp only [World.size_alloc, World.size_drew, World.size_setCell, size_drewN]; done))) | refine block_alloc ?_)))
  clear ca4_0
  have cb5_0 : w5.heap[w.heap.size + 1]? = some (.cells (d) 26 (0, 0)) := block_below0 hw5 (by first | assumption | (repeat (first | assumption | (refine heap_alloc_at ?_; (first | rfl | (simp only [World.size_alloc, World.size_drew, World.size_setCell, size_drewN]; done))) | refine block_alloc ?_)))
  clear cb4_0
  have cr5_0 : w5.heap[w.heap.size + 1 + 1]? = some (.cells (z) 26 (0, 0)) := block_below0 hw5 (by first | assumption | (repeat (first | assumption | (refine heap_alloc_at ?_; (first | rfl | (simp only [World.size_alloc, World.size_drew, World.size_setCell, size_drewN]; done))) | refine block_alloc ?_)))
  clear cr4_0
  clear hcw5 hfw5 hlw5 hmw5 hnw5
  go_wp2_with (first | (refine wpl_alloc rfl 26 z rfl (HZ.out _) ?_) | (refine wpl_store_new rfl 26 _ _ z s rfl rfl rfl (by rw [hs1.out]; exact infoTrace) (by rw [hs0.out, hs1.out]) ho1.out ?_) | (refine wpl_load rfl 26 26 _ w5.heap.size s (0, 0) _ rfl rfl Try.underlying26 rfl (by rw [hs1.out]; exact infoTrace) (heap_alloc_last w5 _) ?_))
  go_wp2_with fail; (refine (KL.out _).mono ?_; rintro e w6 ⟨rfl, hw6⟩; obtain ⟨hcw6, hfw6, hlw6, hmw6, hnw6⟩ := bcell3 hw6; have hzw6 := hw6.size; (try simp only [World.size_alloc, World.size_setCell, World.size_drew, size_drewN] at hzw6))
  have ca6_0 : w6.heap[w.heap.size]? = some (.cells (c) 26 (0, 0)) := block_below0 hw6 (by first | assumption | (repeat (first | assumption | (refine heap_alloc_at ?_; (first | rfl | (simp only [World.size_alloc, World.size_drew, World.size_setCell, size_drewN]; done))) | refine block_alloc ?_)))
  clear ca5_0
  have cb6_0 : w6.heap[w.heap.size + 1]? = some (.cells (d) 26 (0, 0)) := block_below0 hw6 (by first | assumption | (repeat (first | assumption | (refine heap_alloc_at ?_; (first | rfl | (simp only [World.size_alloc, World.size_drew, World.size_setCell, size_drewN]; done))) | refine block_alloc ?_)))
  clear cb5_0
  have cr6_0 : w6.heap[w.heap.size + 1 + 1]? = some (.cells (z) 26 (0, 0)) := block_below0 hw6 (by first | assumption | (repeat (first | assumption | (refine heap_alloc_at ?_; (first | rfl | (simp only [World.size_alloc, World.size_drew, World.size_setCell, size_drewN]; done))) | refine block_alloc ?_)))
  clear cr5_0
  have cu6_0 : w6.heap[w5.heap.size]? = some (.cells (s) 26 (0, 0)) := block_below0 hw6 (by first | assumption | (repeat (first | assumption | (refine heap_alloc_at ?_; (first | rfl | (simp only [World.size_alloc, World.size_drew, World.size_setCell, size_drewN]; done))) | refine block_alloc ?_)))
  clear hcw6 hfw6 hlw6 hmw6 hnw6
  go_wp2_with (first | (refine wpl_build0 rfl 26 z rfl (HZ.out _) Try.underlying26 (sz := 1) (by kernel_rfl) ?_) | (refine wpl_store rfl 26 26 _ _ (w.heap.size + 1 + 1) z z rfl rfl rfl (by rw [hs0.out]; exact infoTrace) rfl ho0.out cr6_0 ?_))
  refine bodyPost_ret (v := .tuple #[.agg z, .int .i64 8]) ?_ rfl ⟨rfl, below_setRow (by (repeat' (first | (with_reducible exact Below.refl _ _) | (with_reducible assumption) | (with_reducible refine Below.alloc ?_ ?_ _) | (with_reducible refine Below.drew ?_) | (with_reducible refine below_drewN ?_ _) | (with_reducible refine Below.setCell ?_ ?_ _) | (with_reducible refine below_step (by with_reducible assumption) ?_ ?_) | (with_reducible exact Below.size (by with_reducible assumption)) | go_size))) z (by omega)⟩
  rw [results_cell_tmp (p := 4) (u := 5) (ty := 26) rfl]
  have hl : (loadVar 26 ⟨w.heap.size + 1 + 1, 0, none⟩).run Try.prog (w6.setRow (w.heap.size + 1 + 1) z) = .ok (.agg z) _ := run_loadVar_row _ _ 26 26 z (0, 0) _ (block_setRow cr6_0) Try.underlying26 rfl (by rw [hs0.out]; exact infoTrace)
  change ((loadVar 26 ⟨w.heap.size + 1 + 1, 0, none⟩).run Try.prog _).andThen _ = _
  rw [hl]
  rfl
set_option maxRecDepth 100000 in
set_option maxHeartbeats 3000000 in
theorem added_ok (x y : Nat → Int) (w : World) (hx : Hid (∀ k, k < 64 → (x k).natAbs ≤ 2047)) (hy : Hid (∀ k, k < 64 → (y k).natAbs ≤ 2047)) (h : ¬ 2047 < ldM (sumT x y) 64) :
    Calls Try.prog 52 #[.agg (tC x), .agg (tC y)] w fun e w' => e = .returned (.tuple #[.agg (tC (sumT x y)), .int .i64 0]) ∧ Below w.heap.size w w' := by
  have K1 := Lib.hid (fun W => traceError_ok x W hx)
  have K2 := Lib.hid (fun W => traceError_ok y W hy)
  have hmf : ∀ (fn : Fn) (first cap : Array Value) (w : World), (Instr.makeFunc fn first cap).run Try.prog w = .ok (.func fn first cap) w := fun _ _ _ _ => rfl
  have HF : Hid (Enters Try.prog 128) := Lib.hid (enters_of Try.func128 (by kernel_rfl) rfl)
  have KT : Hid (∀ (b1 b2 : Nat) (W : World), W.heap[b1]? = some (.cells (tC x) 26 (0, 0)) → W.heap[b2]? = some (.cells (tC y) 26 (0, 0)) → Calls Try.prog 127 #[.func (.func 128) #[] #[.pointer (some ⟨b1, 0, none⟩), .pointer (some ⟨b2, 0, none⟩)]] W fun e w' => e = .returned (.agg (tC (sumT x y))) ∧ Below W.heap.size W w') :=
    Lib.hid fun b1 b2 W h1 h2 => traceWith_bel (sumT x y) _ _ W HF (Lib.hid fun k hk W' hB => added1_any (x k) (y k) b1 b2 k W' hk (by have := hx.out k hk; omega) (by have := hy.out k hk; omega) ((cell_block (block_below0 hB h1)).trans (tC_get x hk)) ((cell_block (block_below0 hB h2)).trans (tC_get y hk)))
  have KL := Lib.hid (fun W => loudest_any (sumT x y) W (Lib.hid fun k hk => by have := hx.out k hk; have := hy.out k hk; unfold sumT; omega))
  have hC := Lib.hid (show (Try.prog.info? 26).map (·.size) = some (tC x).size by rw [tC_size]; exact infoTrace)
  have hD := Lib.hid (show (Try.prog.info? 26).map (·.size) = some (tC y).size by rw [tC_size]; exact infoTrace)
  have hs0 := Lib.hid (tC_size fun _ => 0)
  have ho0 := Lib.hid (tC_one fun _ => 0)
  have hs1 := Lib.hid (tC_size (sumT x y))
  have ho1 := Lib.hid (tC_one (sumT x y))
  have HZ := Lib.hid zero_trace
  have HFR := Lib.hid (show frst [0, 0] = 0 from rfl)
  have hgt : decide (2047 < ldM (sumT x y) 64) = false := decide_eq_false h
  clear h
  generalize ldM (sumT x y) 64 = L at *
  generalize tC (sumT x y) = s at *
  generalize tC x = c at *
  generalize tC y = d at *
  generalize (tC fun _ => 0) = z at *
  go_enter Try.func52, Try.ntmps52
  go_wp2_with (refine wpl_alloc rfl 26 z rfl (HZ.out _) ?_)
  refine wp_region_held_drew (S := fun w' => w'.heap[w.heap.size]? = some (.cells (c) 26 (0, 0)) ∧ w'.heap[w.heap.size + 1]? = some (.cells (d) 26 (0, 0)) ∧ w'.heap[w.heap.size + 1 + 1]? = some (.cells (z) 26 (0, 0))) (by kernel_rfl) ?_ (fun hH1 => ?_)
  · (first | assumption | (refine ⟨?_, ?_, ?_⟩ <;> (first | assumption | ((repeat (first | assumption | (refine heap_alloc_at ?_; (first | rfl | (simp only [World.size_alloc, World.size_drew, World.size_setCell, size_drewN]; done))) | refine block_alloc ?_ | refine Buf.alloc ?_ _ | refine Buf.drew ?_ | refine Buf.setCell ?_ (by omega) _ _)); done) | (go_keep; done) | (simp [*, go_sem]; done))))
  refine wpAnyH_pure (i := 0) (v := ?_) rfl (by kernel_rfl) (by kernel_rfl) (by kernel_rfl) (fun _ _ _ h => h) (by rfl) (by assumption) ?_ ?_
  rotate_left
  · (intro w hSw; (try dsimp only at hSw); refine exec_load_arr 26 (p := .tmp 2) ?_ ?_ Try.underlying26 (hC.out) (by repeat (first | exact hSw | exact hSw.1 | replace hSw := hSw.2)) <;> rfl)
  simp only [Act.put, List.getElem_toArray, List.getElem_cons_succ, List.getElem_cons_zero, List.setIfInBounds_toArray, List.set_cons_zero, List.set_cons_succ]
  refine wpAnyH_pure (i := 2) (v := ?_) rfl (by kernel_rfl) (by kernel_rfl) (by kernel_rfl) (fun _ _ _ h => h) (by rfl) (by assumption) ?_ ?_
  rotate_left
  · (intro w hSw; (try dsimp only at hSw); refine exec_load_arr 26 (p := .tmp 3) ?_ ?_ Try.underlying26 (hD.out) (by repeat (first | exact hSw | exact hSw.1 | replace hSw := hSw.2)) <;> rfl)
  simp only [Act.put, List.getElem_toArray, List.getElem_cons_succ, List.getElem_cons_zero, List.setIfInBounds_toArray, List.set_cons_zero, List.set_cons_succ]
  refine wpAnyH_ready (rs := [1]) (by kernel_rfl) (by simp) ?_
  refine AllReadyH.cons rfl (fun Kq hKq => ?_) AllReadyH.nil
  go_simp
  refine (K1.out _).mono ?_
  (rintro e w1 ⟨rfl, hw1⟩)
  obtain ⟨hcw1, hfw1, hlw1, hmw1, hnw1⟩ := bcell3 hw1
  have hzw1 := hw1.size
  (try simp only [World.size_alloc, World.size_setCell, World.size_drew, size_drewN] at hzw1)
  have ca1_0 : w1.heap[w.heap.size]? = some (.cells (c) 26 (0, 0)) := block_below0 hw1 (by first | assumption | (repeat (first | assumption | (refine heap_alloc_at ?_; (first | rfl | (simp only [World.size_alloc, World.size_drew, World.size_setCell, size_drewN]; done))) | refine block_alloc ?_)))
  have cb1_0 : w1.heap[w.heap.size + 1]? = some (.cells (d) 26 (0, 0)) := block_below0 hw1 (by first | assumption | (repeat (first | assumption | (refine heap_alloc_at ?_; (first | rfl | (simp only [World.size_alloc, World.size_drew, World.size_setCell, size_drewN]; done))) | refine block_alloc ?_)))
  have cr1_0 : w1.heap[w.heap.size + 1 + 1]? = some (.cells (z) 26 (0, 0)) := block_below0 hw1 (by first | assumption | (repeat (first | assumption | (refine heap_alloc_at ?_; (first | rfl | (simp only [World.size_alloc, World.size_drew, World.size_setCell, size_drewN]; done))) | refine block_alloc ?_)))
  refine hKq.out _ _ ?_ (fun hH2 => ?_)
  · (first | assumption | (refine ⟨?_, ?_, ?_⟩ <;> (first | assumption | ((repeat (first | assumption | (refine heap_alloc_at ?_; (first | rfl | (simp only [World.size_alloc, World.size_drew, World.size_setCell, size_drewN]; done))) | refine block_alloc ?_ | refine Buf.alloc ?_ _ | refine Buf.drew ?_ | refine Buf.setCell ?_ (by omega) _ _)); done) | (go_keep; done) | (simp [*, go_sem]; done))))
  clear hKq Kq
  clear hH1
  refine wpAnyH_ready (rs := [3]) (by kernel_rfl) (by simp) ?_
  refine AllReadyH.cons rfl (fun Kq hKq => ?_) AllReadyH.nil
  go_simp
  refine (K2.out _).mono ?_
  (rintro e w3 ⟨rfl, hw3⟩)
  obtain ⟨hcw3, hfw3, hlw3, hmw3, hnw3⟩ := bcell3 hw3
  have hzw3 := hw3.size
  (try simp only [World.size_alloc, World.size_setCell, World.size_drew, size_drewN] at hzw3)
  have ca3_0 : w3.heap[w.heap.size]? = some (.cells (c) 26 (0, 0)) := block_below0 hw3 (by first | assumption | (repeat (first | assumption | (refine heap_alloc_at ?_; (first | rfl | (simp only [World.size_alloc, World.size_drew, World.size_setCell, size_drewN]; done))) | refine block_alloc ?_)))
  clear ca1_0
  have cb3_0 : w3.heap[w.heap.size + 1]? = some (.cells (d) 26 (0, 0)) := block_below0 hw3 (by first | assumption | (repeat (first | assumption | (refine heap_alloc_at ?_; (first | rfl | (simp only [World.size_alloc, World.size_drew, World.size_setCell, size_drewN]; done))) | refine block_alloc ?_)))
  clear cb1_0
  have cr3_0 : w3.heap[w.heap.size + 1 + 1]? = some (.cells (z) 26 (0, 0)) := block_below0 hw3 (by first | assumption | (repeat (first | assumption | (refine heap_alloc_at ?_; (first | rfl | (simp only [World.size_alloc, World.size_drew, World.size_setCell, size_drewN]; done))) | refine block_alloc ?_)))
  clear cr1_0
  refine hKq.out _ _ ?_ (fun hH3 => ?_)
  · (first | assumption | (refine ⟨?_, ?_, ?_⟩ <;> (first | assumption | ((repeat (first | assumption | (refine heap_alloc_at ?_; (first | rfl | (simp only [World.size_alloc, World.size_drew, World.size_setCell, size_drewN]; done))) | refine block_alloc ?_ | refine Buf.alloc ?_ _ | refine Buf.drew ?_ | refine Buf.setCell ?_ (by omega) _ _)); done) | (go_keep; done) | (simp [*, go_sem]; done))))
  clear hKq Kq
  clear hH2
  refine wpAnyH_ready (rs := [4]) (by kernel_rfl) (by simp) ?_
  refine AllReadyH.cons rfl (fun Kq hKq => ?_) AllReadyH.nil
  go_simp
  refine hKq.out _ _ ?_ (fun hH4 => ?_)
  · (first | assumption | (refine ⟨?_, ?_, ?_⟩ <;> (first | assumption | ((repeat (first | assumption | (refine heap_alloc_at ?_; (first | rfl | (simp only [World.size_alloc, World.size_drew, World.size_setCell, size_drewN]; done))) | refine block_alloc ?_ | refine Buf.alloc ?_ _ | refine Buf.drew ?_ | refine Buf.setCell ?_ (by omega) _ _)); done) | (go_keep; done) | (simp [*, go_sem]; done))))
  clear hKq Kq
  clear hH3
  refine wpAnyH_ready (rs := [5]) (by kernel_rfl) (by simp) ?_
  refine AllReadyH.cons rfl (fun Kq hKq => ?_) AllReadyH.nil
  go_simp
  refine (first2 _ _ _ _ (cell_fresh _ _ _ _ _ _ rfl rfl) (cell_fresh _ _ _ _ _ _ rfl rfl)).mono ?_
  (rintro e w' ⟨rfl, rfl⟩)
  refine hKq.out _ _ ?_ (fun hH5 => ?_)
  · (first | assumption | (refine ⟨?_, ?_, ?_⟩ <;> (first | assumption | ((repeat (first | assumption | (refine heap_alloc_at ?_; (first | rfl | (simp only [World.size_alloc, World.size_drew, World.size_setCell, size_drewN]; done))) | refine block_alloc ?_ | refine Buf.alloc ?_ _ | refine Buf.drew ?_ | refine Buf.setCell ?_ (by omega) _ _)); done) | (go_keep; done) | (simp [*, go_sem]; done))))
  clear hKq Kq
  clear hH4
  refine wpAnyH_pure (i := 6) (v := ?_) rfl (by kernel_rfl) (by kernel_rfl) (by kernel_rfl) (fun _ _ _ h => h) (by rfl) (by assumption) ?_ ?_
  rotate_left
  · (intro w hSw; (try dsimp only at hSw); go_simp; (try with_reducible rfl))
  simp only [Act.put, List.getElem_toArray, List.getElem_cons_succ, List.getElem_cons_zero, List.setIfInBounds_toArray, List.set_cons_zero, List.set_cons_succ]
  refine wpAnyH_done (by kernel_rfl) ?_ _
  rw [HFR.out]
  first | refine abs_calls (fun w4 hw4 => ?_) | refine abs_last (fun w4 hw4 => ?_)
  have hw40 : Below w.heap.size w w4 := by rw [hw4]; (repeat' (first | (with_reducible exact Below.refl _ _) | (with_reducible assumption) | (with_reducible refine Below.alloc ?_ ?_ _) | (with_reducible refine Below.drew ?_) | (with_reducible refine below_drewN ?_ _) | (with_reducible refine Below.setCell ?_ ?_ _) | (with_reducible refine below_step (by with_reducible assumption) ?_ ?_) | (with_reducible exact Below.size (by with_reducible assumption)) | go_size))
  have hzz4 := hw40.size
  have ca4_0 : w4.heap[w.heap.size]? = some (.cells (c) 26 (0, 0)) := by rw [hw4]; (repeat (first | assumption | (refine heap_alloc_at ?_; (first | rfl | (simp only [World.size_alloc, World.size_drew, World.size_setCell, size_drewN]; done))) | refine block_alloc ?_))
  have cb4_0 : w4.heap[w.heap.size + 1]? = some (.cells (d) 26 (0, 0)) := by rw [hw4]; (repeat (first | assumption | (refine heap_alloc_at ?_; (first | rfl | (simp only [World.size_alloc, World.size_drew, World.size_setCell, size_drewN]; done))) | refine block_alloc ?_))
  have cr4_0 : w4.heap[w.heap.size + 1 + 1]? = some (.cells (z) 26 (0, 0)) := by rw [hw4]; (repeat (first | assumption | (refine heap_alloc_at ?_; (first | rfl | (simp only [World.size_alloc, World.size_drew, World.size_setCell, size_drewN]; done))) | refine block_alloc ?_))
  clear ca3_0
  clear cb3_0
  clear cr3_0
  clear hw4
  go_wp2_with fail; (refine (KT.out _ _ _ ca4_0 cb4_0).mono ?_; rintro e w5 ⟨rfl, hw5⟩; obtain ⟨hcw5, hfw5, hlw5, hmw5, hnw5⟩ := bcell3 hw5; have hzw5 := hw5.size; (try simp only [World.size_alloc, World.size_setCell, World.size_drew, size_drewN] at hzw5))
  have ca5_0 : w5.heap[w.heap.size]? = some (.cells (c) 26 (0, 0)) := block_below0 hw5 (by first | assumption | (repeat (first | assumption | (refine heap_alloc_at ?_; (first | rfl | (simp only [World.size_alloc, World.size_drew, World.size_setCell, size_drewN]; done))) | refine block_alloc ?_)))
  clear ca4_0
  have cb5_0 : w5.heap[w.heap.size + 1]? = some (.cells (d) 26 (0, 0)) := block_below0 hw5 (by first | assumption | (repeat (first | assumption | (refine heap_alloc_at ?_; (first | rfl | (simp only [World.size_alloc, World.size_drew, World.size_setCell, size_drewN]; done))) | refine block_alloc ?_)))
  clear cb4_0
  have cr5_0 : w5.heap[w.heap.size + 1 + 1]? = some (.cells (z) 26 (0, 0)) := block_below0 hw5 (by first | assumption | (repeat (first | assumption | (refine heap_alloc_at ?_; (first | rfl | (simp only [World.size_alloc, World.size_drew, World.size_setCell, size_drewN]; done))) | refine block_alloc ?_)))
  clear cr4_0
  clear hcw5 hfw5 hlw5 hmw5 hnw5
  go_wp2_with (first | (refine wpl_alloc rfl 26 z rfl (HZ.out _) ?_) | (refine wpl_store_new rfl 26 _ _ z s rfl rfl rfl (by rw [hs1.out]; exact infoTrace) (by rw [hs0.out, hs1.out]) ho1.out ?_) | (refine wpl_load rfl 26 26 _ w5.heap.size s (0, 0) _ rfl rfl Try.underlying26 rfl (by rw [hs1.out]; exact infoTrace) (heap_alloc_last w5 _) ?_))
  go_wp2_with fail; (refine (KL.out _).mono ?_; rintro e w6 ⟨rfl, hw6⟩; obtain ⟨hcw6, hfw6, hlw6, hmw6, hnw6⟩ := bcell3 hw6; have hzw6 := hw6.size; (try simp only [World.size_alloc, World.size_setCell, World.size_drew, size_drewN] at hzw6))
  have ca6_0 : w6.heap[w.heap.size]? = some (.cells (c) 26 (0, 0)) := block_below0 hw6 (by first | assumption | (repeat (first | assumption | (refine heap_alloc_at ?_; (first | rfl | (simp only [World.size_alloc, World.size_drew, World.size_setCell, size_drewN]; done))) | refine block_alloc ?_)))
  clear ca5_0
  have cb6_0 : w6.heap[w.heap.size + 1]? = some (.cells (d) 26 (0, 0)) := block_below0 hw6 (by first | assumption | (repeat (first | assumption | (refine heap_alloc_at ?_; (first | rfl | (simp only [World.size_alloc, World.size_drew, World.size_setCell, size_drewN]; done))) | refine block_alloc ?_)))
  clear cb5_0
  have cr6_0 : w6.heap[w.heap.size + 1 + 1]? = some (.cells (z) 26 (0, 0)) := block_below0 hw6 (by first | assumption | (repeat (first | assumption | (refine heap_alloc_at ?_; (first | rfl | (simp only [World.size_alloc, World.size_drew, World.size_setCell, size_drewN]; done))) | refine block_alloc ?_)))
  clear cr5_0
  have cu6_0 : w6.heap[w5.heap.size]? = some (.cells (s) 26 (0, 0)) := block_below0 hw6 (by first | assumption | (repeat (first | assumption | (refine heap_alloc_at ?_; (first | rfl | (simp only [World.size_alloc, World.size_drew, World.size_setCell, size_drewN]; done))) | refine block_alloc ?_)))
  clear hcw6 hfw6 hlw6 hmw6 hnw6
  go_wp2_with (first | (refine wpl_load rfl 26 26 _ w5.heap.size s (0, 0) _ rfl rfl Try.underlying26 rfl (by rw [hs1.out]; exact infoTrace) cu6_0 ?_) | (refine wpl_store rfl 26 26 _ _ (w.heap.size + 1 + 1) z s rfl rfl rfl (by rw [hs1.out]; exact infoTrace) (by rw [hs0.out, hs1.out]) ho1.out cr6_0 ?_))
  refine bodyPost_ret (v := .tuple #[.agg s, .int .i64 0]) ?_ rfl ⟨rfl, below_setRow (by (repeat' (first | (with_reducible exact Below.refl _ _) | (with_reducible assumption) | (with_reducible refine Below.alloc ?_ ?_ _) | (with_reducible refine Below.drew ?_) | (with_reducible refine below_drewN ?_ _) | (with_reducible refine Below.setCell ?_ ?_ _) | (with_reducible refine below_step (by with_reducible assumption) ?_ ?_) | (with_reducible exact Below.size (by with_reducible assumption)) | go_size))) s (by omega)⟩
  rw [results_cell_tmp (p := 4) (u := 5) (ty := 26) rfl]
  have hl : (loadVar 26 ⟨w.heap.size + 1 + 1, 0, none⟩).run Try.prog (w6.setRow (w.heap.size + 1 + 1) s) = .ok (.agg s) _ := run_loadVar_row _ _ 26 26 s (0, 0) _ (block_setRow cr6_0) Try.underlying26 rfl (by rw [hs1.out]; exact infoTrace)
  change ((loadVar 26 ⟨w.heap.size + 1 + 1, 0, none⟩).run Try.prog _).andThen _ = _
  rw [hl]
  rfl
end Go.Proofs.Ythgnemkfaiejbaa
