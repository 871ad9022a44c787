/-
  TracePeaks: the walks.
-/
import Derived.Test.YthgnemkfaiejbaaTPkR
import Derived.Test.YthgnemkfaiejbaaTChk
import Derived.Test.YthgnemkfaiejbaaTMade
import Derived.Test.YthgnemkfaiejbaaTAwake
import Derived.Test.YthgnemkfaiejbaaTraceLagsO
set_option linter.unusedVariables false
set_option linter.unusedSimpArgs false
namespace Go.Proofs.Ythgnemkfaiejbaa
open Go.RowKit

set_option maxRecDepth 100000 in
set_option maxHeartbeats 2000000 in
theorem tracePk_out (v0 : Value) (x : Nat → Int) (n : Nat) (f t sq : Int) (w : World) (hr0 : Hid (IRow w v0 x n)) (h : ¬ n ≤ 64) :
    Calls Try.prog 14 #[v0, .agg #[.int .i64 f, .int .i64 t], .int .i64 sq] w fun e w' => e = .returned (.bool true) ∧ Below w.heap.size w w' := by
  have KA := Lib.hid awake3_any
  obtain ⟨q0, c0, rfl, hc0, -⟩ := hr0.out
  clear hr0 hc0
  have d0 : decide (64 < (n : Int)) = true := decide_eq_true (by omega)
  clear h
  go_enter Try.func14, Try.ntmps14
  go_wp2_with fail; (refine (KA.out _).mono ?_; rintro e w1 ⟨rfl, hw1⟩; obtain ⟨hcw1, hfw1, hlw1, hmw1, hnw1⟩ := bcell3 hw1; have hzw1 := hw1.size; (try simp only [World.size_alloc, World.size_setCell, World.size_drew, size_drewN] at hzw1))
  clear hcw1 hfw1 hlw1 hmw1 hnw1
  go_wp2
  go_ret
  exact ⟨rfl, by (repeat' (first | (with_reducible exact Below.refl _ _) | (with_reducible assumption) | (with_reducible refine Below.alloc ?_ ?_ _) | (with_reducible refine Below.drew ?_) | (with_reducible refine below_drewN ?_ _) | (with_reducible refine Below.setCell ?_ ?_ _) | (with_reducible refine below_step (by with_reducible assumption) ?_ ?_) | (with_reducible exact Below.size (by with_reducible assumption)) | go_size))⟩
set_option maxRecDepth 100000 in
set_option maxHeartbeats 4000000 in
theorem tracePk_err (v0 : Value) (x : Nat → Int) (n : Nat) (f t sq E : Int) (w : World) (hr0 : Hid (IRow w v0 x n)) (hn : n ≤ 64) (hE : (E == 0) = false)
    (KN : Hid (∀ W, Calls Try.prog 65 #[.agg (tC (mkT x n)), .agg #[.int .i64 f, .int .i64 t]] W fun e w' => e = .returned (.tuple #[.agg #[.int .i64 0, .int .i64 0], .int .i64 E]) ∧ Below W.heap.size W w'))
    (KE : Hid (∀ W, Calls Try.prog 66 #[.agg (tC (mkT x n)), .agg #[.int .i64 f, .int .i64 t], .int .i64 sq] W fun e w' => e = .returned (.tuple #[.int .i64 0, .int .i64 E]) ∧ Below W.heap.size W w'))
    (KX : Hid (∀ W, Calls Try.prog 23 #[.agg (tC (mkT x n))] W fun e w' => e = .returned (.tuple #[.int .i64 (tN (mkT x n) 64), .int .i64 E]) ∧ Below W.heap.size W w')) :
    Calls Try.prog 14 #[v0, .agg #[.int .i64 f, .int .i64 t], .int .i64 sq] w fun e w' => e = .returned (.bool true) ∧ Below w.heap.size w w' := by
  have hE2 : (E != 0) = true := by simp [bne, hE]
  have KA := Lib.hid awake3_any
  have KM0 := Lib.hid (fun W (hB : Below w.heap.size w W) => made_any v0 x n W (by omega) (Lib.hid (hr0.out.below hB)))
  obtain ⟨q0, c0, rfl, hc0, -⟩ := hr0.out
  have d0 : decide (64 < (n : Int)) = false := decide_eq_false (by omega)
  have HZ := Lib.hid zero_trace
  have hs0 := Lib.hid (tC_size fun _ => 0)
  have hsc := Lib.hid (tC_size (mkT x n))
  have hoc := Lib.hid (tC_one (mkT x n))
  clear hr0 hc0
  generalize tN (mkT x n) 64 = nx at *
  generalize tC (mkT x n) = c at *
  generalize (tC fun _ => 0) = z at *
  go_enter Try.func14, Try.ntmps14
  go_wp2_with fail; (refine (KA.out _).mono ?_; rintro e w1 ⟨rfl, hw1⟩; obtain ⟨hcw1, hfw1, hlw1, hmw1, hnw1⟩ := bcell3 hw1; have hzw1 := hw1.size; (try simp only [World.size_alloc, World.size_setCell, World.size_drew, size_drewN] at hzw1))
  have cg1_0 : w1.cell? ⟨w.heap.size, 0, none⟩ = some (.int .i64 (f)) := (hcw1 (w.heap.size) (0) (by first | omega | (simp only [World.size_alloc, World.size_drew, World.size_setCell, size_drewN]; omega))).trans (by first | assumption | (simp [go_sem, *]; done)); have cg1_1 : w1.cell? ⟨w.heap.size, 1, none⟩ = some (.int .i64 (t)) := (hcw1 (w.heap.size) (1) (by first | omega | (simp only [World.size_alloc, World.size_drew, World.size_setCell, size_drewN]; omega))).trans (by first | assumption | (simp [go_sem, *]; done)); have og1 : w.heap.size < w1.heap.size := (by omega)
  clear hcw1 hfw1 hlw1 hmw1 hnw1
  have hB1 : Below w.heap.size w w1 := by (repeat' (first | (with_reducible exact Below.refl _ _) | (with_reducible assumption) | (with_reducible refine Below.alloc ?_ ?_ _) | (with_reducible refine Below.drew ?_) | (with_reducible refine below_drewN ?_ _) | (with_reducible refine Below.setCell ?_ ?_ _) | (with_reducible refine below_step (by with_reducible assumption) ?_ ?_) | (with_reducible exact Below.size (by with_reducible assumption)) | go_size))
  go_wp2_with fail; (refine (KM0.out _ hB1).mono ?_; rintro e w2 ⟨rfl, hw2⟩; obtain ⟨hcw2, hfw2, hlw2, hmw2, hnw2⟩ := bcell3 hw2; have hzw2 := hw2.size; (try simp only [World.size_alloc, World.size_setCell, World.size_drew, size_drewN] at hzw2))
  have cg2_0 : w2.cell? ⟨w.heap.size, 0, none⟩ = some (.int .i64 (f)) := (hcw2 (w.heap.size) (0) (by first | omega | (simp only [World.size_alloc, World.size_drew, World.size_setCell, size_drewN]; omega))).trans (by first | assumption | (simp [go_sem, *]; done)); have cg2_1 : w2.cell? ⟨w.heap.size, 1, none⟩ = some (.int .i64 (t)) := (hcw2 (w.heap.size) (1) (by first | omega | (simp only [World.size_alloc, World.size_drew, World.size_setCell, size_drewN]; omega))).trans (by first | assumption | (simp [go_sem, *]; done)); have og2 : w.heap.size < w2.heap.size := (by omega)
  clear cg1_0 cg1_1
  clear hcw2 hfw2 hlw2 hmw2 hnw2
  have hlg2 : w.heap.size < w2.heap.size := by omega
  go_wp2_with (first | (refine wpl_alloc rfl 26 z rfl (HZ.out _) ?_) | (refine wpl_store_new rfl 26 _ _ z c rfl rfl rfl (by rw [hsc.out]; exact infoTrace) (by rw [hs0.out, hsc.out]) hoc.out ?_) | (refine wpl_load rfl 26 26 _ w2.heap.size c (0, 0) _ rfl rfl Try.underlying26 rfl (by rw [hsc.out]; exact infoTrace) (heap_alloc_last w2 _) ?_))
  go_wp2_with fail; (refine (KN.out _).mono ?_; rintro e w3 ⟨rfl, hw3⟩; obtain ⟨hcw3, hfw3, hlw3, hmw3, hnw3⟩ := bcell3 hw3; have hzw3 := hw3.size; (try simp only [World.size_alloc, World.size_setCell, World.size_drew, size_drewN] at hzw3))
  have cg3_0 : w3.cell? ⟨w.heap.size, 0, none⟩ = some (.int .i64 (f)) := (hcw3 (w.heap.size) (0) (by first | omega | (simp only [World.size_alloc, World.size_drew, World.size_setCell, size_drewN]; omega))).trans (by first | assumption | (simp [go_sem, *]; done)); have cg3_1 : w3.cell? ⟨w.heap.size, 1, none⟩ = some (.int .i64 (t)) := (hcw3 (w.heap.size) (1) (by first | omega | (simp only [World.size_alloc, World.size_drew, World.size_setCell, size_drewN]; omega))).trans (by first | assumption | (simp [go_sem, *]; done)); have og3 : w.heap.size < w3.heap.size := (by omega)
  clear cg2_0 cg2_1
  have ca3_0 : w3.heap[w2.heap.size]? = some (.cells (c) 26 (0, 0)) := block_below0 hw3 (by first | assumption | (repeat (first | assumption | (refine heap_alloc_at ?_; (first | rfl | (simp only [World.size_alloc, World.size_drew, World.size_setCell, size_drewN]; done))) | refine block_alloc ?_)))
  clear hcw3 hfw3 hlw3 hmw3 hnw3
  go_wp2_with (refine wpl_load rfl 26 26 _ w2.heap.size c (0, 0) _ rfl rfl Try.underlying26 rfl (by rw [hsc.out]; exact infoTrace) (block_alloc ca3_0) ?_)
  go_wp2_with fail; (refine (KE.out _).mono ?_; rintro e w4 ⟨rfl, hw4⟩; obtain ⟨hcw4, hfw4, hlw4, hmw4, hnw4⟩ := bcell3 hw4; have hzw4 := hw4.size; (try simp only [World.size_alloc, World.size_setCell, World.size_drew, size_drewN] at hzw4))
  have cg4_0 : w4.cell? ⟨w.heap.size, 0, none⟩ = some (.int .i64 (f)) := (hcw4 (w.heap.size) (0) (by first | omega | (simp only [World.size_alloc, World.size_drew, World.size_setCell, size_drewN]; omega))).trans (by first | assumption | (simp [go_sem, *]; done)); have cg4_1 : w4.cell? ⟨w.heap.size, 1, none⟩ = some (.int .i64 (t)) := (hcw4 (w.heap.size) (1) (by first | omega | (simp only [World.size_alloc, World.size_drew, World.size_setCell, size_drewN]; omega))).trans (by first | assumption | (simp [go_sem, *]; done)); have og4 : w.heap.size < w4.heap.size := (by omega)
  clear cg3_0 cg3_1
  have ca4_0 : w4.heap[w2.heap.size]? = some (.cells (c) 26 (0, 0)) := block_below0 hw4 (by first | assumption | (repeat (first | assumption | (refine heap_alloc_at ?_; (first | rfl | (simp only [World.size_alloc, World.size_drew, World.size_setCell, size_drewN]; done))) | refine block_alloc ?_)))
  clear ca3_0
  have cp4_0 : w4.cell? ⟨w3.heap.size, 0, none⟩ = some (.int .i64 (0)) := (hcw4 (w3.heap.size) (0) (by first | omega | (simp only [World.size_alloc, World.size_drew, World.size_setCell, size_drewN]; omega))).trans (by first | assumption | (simp [go_sem, *]; done)); have cp4_1 : w4.cell? ⟨w3.heap.size, 1, none⟩ = some (.int .i64 (0)) := (hcw4 (w3.heap.size) (1) (by first | omega | (simp only [World.size_alloc, World.size_drew, World.size_setCell, size_drewN]; omega))).trans (by first | assumption | (simp [go_sem, *]; done)); have op4 : w3.heap.size < w4.heap.size := (by omega)
  clear hcw4 hfw4 hlw4 hmw4 hnw4
  go_wp2_with (refine wpl_load rfl 26 26 _ w2.heap.size c (0, 0) _ rfl rfl Try.underlying26 rfl (by rw [hsc.out]; exact infoTrace) ca4_0 ?_)
  go_wp2_with fail; (refine (KX.out _).mono ?_; rintro e w5 ⟨rfl, hw5⟩; obtain ⟨hcw5, hfw5, hlw5, hmw5, hnw5⟩ := bcell3 hw5; have hzw5 := hw5.size; (try simp only [World.size_alloc, World.size_setCell, World.size_drew, size_drewN] at hzw5))
  have cg5_0 : w5.cell? ⟨w.heap.size, 0, none⟩ = some (.int .i64 (f)) := (hcw5 (w.heap.size) (0) (by first | omega | (simp only [World.size_alloc, World.size_drew, World.size_setCell, size_drewN]; omega))).trans (by first | assumption | (simp [go_sem, *]; done)); have cg5_1 : w5.cell? ⟨w.heap.size, 1, none⟩ = some (.int .i64 (t)) := (hcw5 (w.heap.size) (1) (by first | omega | (simp only [World.size_alloc, World.size_drew, World.size_setCell, size_drewN]; omega))).trans (by first | assumption | (simp [go_sem, *]; done)); have og5 : w.heap.size < w5.heap.size := (by omega)
  clear cg4_0 cg4_1
  have ca5_0 : w5.heap[w2.heap.size]? = some (.cells (c) 26 (0, 0)) := block_below0 hw5 (by first | assumption | (repeat (first | assumption | (refine heap_alloc_at ?_; (first | rfl | (simp only [World.size_alloc, World.size_drew, World.size_setCell, size_drewN]; done))) | refine block_alloc ?_)))
  clear ca4_0
  have cp5_0 : w5.cell? ⟨w3.heap.size, 0, none⟩ = some (.int .i64 (0)) := (hcw5 (w3.heap.size) (0) (by first | omega | (simp only [World.size_alloc, World.size_drew, World.size_setCell, size_drewN]; omega))).trans (by first | assumption | (simp [go_sem, *]; done)); have cp5_1 : w5.cell? ⟨w3.heap.size, 1, none⟩ = some (.int .i64 (0)) := (hcw5 (w3.heap.size) (1) (by first | omega | (simp only [World.size_alloc, World.size_drew, World.size_setCell, size_drewN]; omega))).trans (by first | assumption | (simp [go_sem, *]; done)); have op5 : w3.heap.size < w5.heap.size := (by omega)
  clear cp4_0 cp4_1
  clear hcw5 hfw5 hlw5 hmw5 hnw5
  go_wp2
  go_ret
  exact ⟨rfl, by (repeat' (first | (with_reducible exact Below.refl _ _) | (with_reducible assumption) | (with_reducible refine Below.alloc ?_ ?_ _) | (with_reducible refine Below.drew ?_) | (with_reducible refine below_drewN ?_ _) | (with_reducible refine Below.setCell ?_ ?_ _) | (with_reducible refine below_step (by with_reducible assumption) ?_ ?_) | (with_reducible exact Below.size (by with_reducible assumption)) | go_size))⟩
set_option maxRecDepth 100000 in
set_option maxHeartbeats 4000000 in
theorem tracePk_gate (v0 : Value) (x : Nat → Int) (n : Nat) (f t sq E : Int) (w : World) (hr0 : Hid (IRow w v0 x n)) (hn : n ≤ 64) (hE : (E != 0) = true)
    (KN : Hid (∀ W, Calls Try.prog 65 #[.agg (tC (mkT x n)), .agg #[.int .i64 f, .int .i64 t]] W fun e w' => e = .returned (.tuple #[.agg #[.int .i64 0, .int .i64 0], .int .i64 E]) ∧ Below W.heap.size W w'))
    (KE : Hid (∀ W, Calls Try.prog 66 #[.agg (tC (mkT x n)), .agg #[.int .i64 f, .int .i64 t], .int .i64 sq] W fun e w' => e = .returned (.tuple #[.int .i64 0, .int .i64 E]) ∧ Below W.heap.size W w'))
    (KX : Hid (∀ W, Calls Try.prog 23 #[.agg (tC (mkT x n))] W fun e w' => e = .returned (.tuple #[.int .i64 (tN (mkT x n) 64), .int .i64 0]) ∧ Below W.heap.size W w'))
    (KG : Hid (∀ W, Calls Try.prog 67 #[.agg #[.int .i64 f, .int .i64 t]] W fun e w' => e = .returned (.int .i64 E) ∧ Below W.heap.size W w')) :
    Calls Try.prog 14 #[v0, .agg #[.int .i64 f, .int .i64 t], .int .i64 sq] w fun e w' => e = .returned (.bool true) ∧ Below w.heap.size w w' := by
  have KA := Lib.hid awake3_any
  have KM0 := Lib.hid (fun W (hB : Below w.heap.size w W) => made_any v0 x n W (by omega) (Lib.hid (hr0.out.below hB)))
  obtain ⟨q0, c0, rfl, hc0, -⟩ := hr0.out
  have d0 : decide (64 < (n : Int)) = false := decide_eq_false (by omega)
  have HZ := Lib.hid zero_trace
  have hs0 := Lib.hid (tC_size fun _ => 0)
  have hsc := Lib.hid (tC_size (mkT x n))
  have hoc := Lib.hid (tC_one (mkT x n))
  clear hr0 hc0
  generalize tN (mkT x n) 64 = nx at *
  generalize tC (mkT x n) = c at *
  generalize (tC fun _ => 0) = z at *
  go_enter Try.func14, Try.ntmps14
  go_wp2_with fail; (refine (KA.out _).mono ?_; rintro e w1 ⟨rfl, hw1⟩; obtain ⟨hcw1, hfw1, hlw1, hmw1, hnw1⟩ := bcell3 hw1; have hzw1 := hw1.size; (try simp only [World.size_alloc, World.size_setCell, World.size_drew, size_drewN] at hzw1))
  have cg1_0 : w1.cell? ⟨w.heap.size, 0, none⟩ = some (.int .i64 (f)) := (hcw1 (w.heap.size) (0) (by first | omega | (simp only [World.size_alloc, World.size_drew, World.size_setCell, size_drewN]; omega))).trans (by first | assumption | (simp [go_sem, *]; done)); have cg1_1 : w1.cell? ⟨w.heap.size, 1, none⟩ = some (.int .i64 (t)) := (hcw1 (w.heap.size) (1) (by first | omega | (simp only [World.size_alloc, World.size_drew, World.size_setCell, size_drewN]; omega))).trans (by first | assumption | (simp [go_sem, *]; done)); have og1 : w.heap.size < w1.heap.size := (by omega)
  clear hcw1 hfw1 hlw1 hmw1 hnw1
  have hB1 : Below w.heap.size w w1 := by (repeat' (first | (with_reducible exact Below.refl _ _) | (with_reducible assumption) | (with_reducible refine Below.alloc ?_ ?_ _) | (with_reducible refine Below.drew ?_) | (with_reducible refine below_drewN ?_ _) | (with_reducible refine Below.setCell ?_ ?_ _) | (with_reducible refine below_step (by with_reducible assumption) ?_ ?_) | (with_reducible exact Below.size (by with_reducible assumption)) | go_size))
  go_wp2_with fail; (refine (KM0.out _ hB1).mono ?_; rintro e w2 ⟨rfl, hw2⟩; obtain ⟨hcw2, hfw2, hlw2, hmw2, hnw2⟩ := bcell3 hw2; have hzw2 := hw2.size; (try simp only [World.size_alloc, World.size_setCell, World.size_drew, size_drewN] at hzw2))
  have cg2_0 : w2.cell? ⟨w.heap.size, 0, none⟩ = some (.int .i64 (f)) := (hcw2 (w.heap.size) (0) (by first | omega | (simp only [World.size_alloc, World.size_drew, World.size_setCell, size_drewN]; omega))).trans (by first | assumption | (simp [go_sem, *]; done)); have cg2_1 : w2.cell? ⟨w.heap.size, 1, none⟩ = some (.int .i64 (t)) := (hcw2 (w.heap.size) (1) (by first | omega | (simp only [World.size_alloc, World.size_drew, World.size_setCell, size_drewN]; omega))).trans (by first | assumption | (simp [go_sem, *]; done)); have og2 : w.heap.size < w2.heap.size := (by omega)
  clear cg1_0 cg1_1
  clear hcw2 hfw2 hlw2 hmw2 hnw2
  have hlg2 : w.heap.size < w2.heap.size := by omega
  go_wp2_with (first | (refine wpl_alloc rfl 26 z rfl (HZ.out _) ?_) | (refine wpl_store_new rfl 26 _ _ z c rfl rfl rfl (by rw [hsc.out]; exact infoTrace) (by rw [hs0.out, hsc.out]) hoc.out ?_) | (refine wpl_load rfl 26 26 _ w2.heap.size c (0, 0) _ rfl rfl Try.underlying26 rfl (by rw [hsc.out]; exact infoTrace) (heap_alloc_last w2 _) ?_))
  go_wp2_with fail; (refine (KN.out _).mono ?_; rintro e w3 ⟨rfl, hw3⟩; obtain ⟨hcw3, hfw3, hlw3, hmw3, hnw3⟩ := bcell3 hw3; have hzw3 := hw3.size; (try simp only [World.size_alloc, World.size_setCell, World.size_drew, size_drewN] at hzw3))
  have cg3_0 : w3.cell? ⟨w.heap.size, 0, none⟩ = some (.int .i64 (f)) := (hcw3 (w.heap.size) (0) (by first | omega | (simp only [World.size_alloc, World.size_drew, World.size_setCell, size_drewN]; omega))).trans (by first | assumption | (simp [go_sem, *]; done)); have cg3_1 : w3.cell? ⟨w.heap.size, 1, none⟩ = some (.int .i64 (t)) := (hcw3 (w.heap.size) (1) (by first | omega | (simp only [World.size_alloc, World.size_drew, World.size_setCell, size_drewN]; omega))).trans (by first | assumption | (simp [go_sem, *]; done)); have og3 : w.heap.size < w3.heap.size := (by omega)
  clear cg2_0 cg2_1
  have ca3_0 : w3.heap[w2.heap.size]? = some (.cells (c) 26 (0, 0)) := block_below0 hw3 (by first | assumption | (repeat (first | assumption | (refine heap_alloc_at ?_; (first | rfl | (simp only [World.size_alloc, World.size_drew, World.size_setCell, size_drewN]; done))) | refine block_alloc ?_)))
  clear hcw3 hfw3 hlw3 hmw3 hnw3
  go_wp2_with (refine wpl_load rfl 26 26 _ w2.heap.size c (0, 0) _ rfl rfl Try.underlying26 rfl (by rw [hsc.out]; exact infoTrace) (block_alloc ca3_0) ?_)
  go_wp2_with fail; (refine (KE.out _).mono ?_; rintro e w4 ⟨rfl, hw4⟩; obtain ⟨hcw4, hfw4, hlw4, hmw4, hnw4⟩ := bcell3 hw4; have hzw4 := hw4.size; (try simp only [World.size_alloc, World.size_setCell, World.size_drew, size_drewN] at hzw4))
  have cg4_0 : w4.cell? ⟨w.heap.size, 0, none⟩ = some (.int .i64 (f)) := (hcw4 (w.heap.size) (0) (by first | omega | (simp only [World.size_alloc, World.size_drew, World.size_setCell, size_drewN]; omega))).trans (by first | assumption | (simp [go_sem, *]; done)); have cg4_1 : w4.cell? ⟨w.heap.size, 1, none⟩ = some (.int .i64 (t)) := (hcw4 (w.heap.size) (1) (by first | omega | (simp only [World.size_alloc, World.size_drew, World.size_setCell, size_drewN]; omega))).trans (by first | assumption | (simp [go_sem, *]; done)); have og4 : w.heap.size < w4.heap.size := (by omega)
  clear cg3_0 cg3_1
  have ca4_0 : w4.heap[w2.heap.size]? = some (.cells (c) 26 (0, 0)) := block_below0 hw4 (by first | assumption | (repeat (first | assumption | (refine heap_alloc_at ?_; (first | rfl | (simp only [World.size_alloc, World.size_drew, World.size_setCell, size_drewN]; done))) | refine block_alloc ?_)))
  clear ca3_0
  have cp4_0 : w4.cell? ⟨w3.heap.size, 0, none⟩ = some (.int .i64 (0)) := (hcw4 (w3.heap.size) (0) (by first | omega | (simp only [World.size_alloc, World.size_drew, World.size_setCell, size_drewN]; omega))).trans (by first | assumption | (simp [go_sem, *]; done)); have cp4_1 : w4.cell? ⟨w3.heap.size, 1, none⟩ = some (.int .i64 (0)) := (hcw4 (w3.heap.size) (1) (by first | omega | (simp only [World.size_alloc, World.size_drew, World.size_setCell, size_drewN]; omega))).trans (by first | assumption | (simp [go_sem, *]; done)); have op4 : w3.heap.size < w4.heap.size := (by omega)
  clear hcw4 hfw4 hlw4 hmw4 hnw4
  go_wp2_with (refine wpl_load rfl 26 26 _ w2.heap.size c (0, 0) _ rfl rfl Try.underlying26 rfl (by rw [hsc.out]; exact infoTrace) ca4_0 ?_)
  go_wp2_with fail; (refine (KX.out _).mono ?_; rintro e w5 ⟨rfl, hw5⟩; obtain ⟨hcw5, hfw5, hlw5, hmw5, hnw5⟩ := bcell3 hw5; have hzw5 := hw5.size; (try simp only [World.size_alloc, World.size_setCell, World.size_drew, size_drewN] at hzw5))
  have cg5_0 : w5.cell? ⟨w.heap.size, 0, none⟩ = some (.int .i64 (f)) := (hcw5 (w.heap.size) (0) (by first | omega | (simp only [World.size_alloc, World.size_drew, World.size_setCell, size_drewN]; omega))).trans (by first | assumption | (simp [go_sem, *]; done)); have cg5_1 : w5.cell? ⟨w.heap.size, 1, none⟩ = some (.int .i64 (t)) := (hcw5 (w.heap.size) (1) (by first | omega | (simp only [World.size_alloc, World.size_drew, World.size_setCell, size_drewN]; omega))).trans (by first | assumption | (simp [go_sem, *]; done)); have og5 : w.heap.size < w5.heap.size := (by omega)
  clear cg4_0 cg4_1
  have ca5_0 : w5.heap[w2.heap.size]? = some (.cells (c) 26 (0, 0)) := block_below0 hw5 (by first | assumption | (repeat (first | assumption | (refine heap_alloc_at ?_; (first | rfl | (simp only [World.size_alloc, World.size_drew, World.size_setCell, size_drewN]; done))) | refine block_alloc ?_)))
  clear ca4_0
  have cp5_0 : w5.cell? ⟨w3.heap.size, 0, none⟩ = some (.int .i64 (0)) := (hcw5 (w3.heap.size) (0) (by first | omega | (simp only [World.size_alloc, World.size_drew, World.size_setCell, size_drewN]; omega))).trans (by first | assumption | (simp [go_sem, *]; done)); have cp5_1 : w5.cell? ⟨w3.heap.size, 1, none⟩ = some (.int .i64 (0)) := (hcw5 (w3.heap.size) (1) (by first | omega | (simp only [World.size_alloc, World.size_drew, World.size_setCell, size_drewN]; omega))).trans (by first | assumption | (simp [go_sem, *]; done)); have op5 : w3.heap.size < w5.heap.size := (by omega)
  clear cp4_0 cp4_1
  clear hcw5 hfw5 hlw5 hmw5 hnw5
  go_wp2_with fail; (refine (KG.out _).mono ?_; rintro e w6 ⟨rfl, hw6⟩; obtain ⟨hcw6, hfw6, hlw6, hmw6, hnw6⟩ := bcell3 hw6; have hzw6 := hw6.size; (try simp only [World.size_alloc, World.size_setCell, World.size_drew, size_drewN] at hzw6))
  have cg6_0 : w6.cell? ⟨w.heap.size, 0, none⟩ = some (.int .i64 (f)) := (hcw6 (w.heap.size) (0) (by first | omega | (simp only [World.size_alloc, World.size_drew, World.size_setCell, size_drewN]; omega))).trans (by first | assumption | (simp [go_sem, *]; done)); have cg6_1 : w6.cell? ⟨w.heap.size, 1, none⟩ = some (.int .i64 (t)) := (hcw6 (w.heap.size) (1) (by first | omega | (simp only [World.size_alloc, World.size_drew, World.size_setCell, size_drewN]; omega))).trans (by first | assumption | (simp [go_sem, *]; done)); have og6 : w.heap.size < w6.heap.size := (by omega)
  clear cg5_0 cg5_1
  have ca6_0 : w6.heap[w2.heap.size]? = some (.cells (c) 26 (0, 0)) := block_below0 hw6 (by first | assumption | (repeat (first | assumption | (refine heap_alloc_at ?_; (first | rfl | (simp only [World.size_alloc, World.size_drew, World.size_setCell, size_drewN]; done))) | refine block_alloc ?_)))
  clear ca5_0
  have cp6_0 : w6.cell? ⟨w3.heap.size, 0, none⟩ = some (.int .i64 (0)) := (hcw6 (w3.heap.size) (0) (by first | omega | (simp only [World.size_alloc, World.size_drew, World.size_setCell, size_drewN]; omega))).trans (by first | assumption | (simp [go_sem, *]; done)); have cp6_1 : w6.cell? ⟨w3.heap.size, 1, none⟩ = some (.int .i64 (0)) := (hcw6 (w3.heap.size) (1) (by first | omega | (simp only [World.size_alloc, World.size_drew, World.size_setCell, size_drewN]; omega))).trans (by first | assumption | (simp [go_sem, *]; done)); have op6 : w3.heap.size < w6.heap.size := (by omega)
  clear cp5_0 cp5_1
  clear hcw6 hfw6 hlw6 hmw6 hnw6
  go_wp2
  go_ret
  exact ⟨rfl, by (repeat' (first | (with_reducible exact Below.refl _ _) | (with_reducible assumption) | (with_reducible refine Below.alloc ?_ ?_ _) | (with_reducible refine Below.drew ?_) | (with_reducible refine below_drewN ?_ _) | (with_reducible refine Below.setCell ?_ ?_ _) | (with_reducible refine below_step (by with_reducible assumption) ?_ ?_) | (with_reducible exact Below.size (by with_reducible assumption)) | go_size))⟩
set_option maxRecDepth 100000 in
set_option maxHeartbeats 4000000 in
theorem tracePk_good (v0 : Value) (x : Nat → Int) (n : Nat) (f t sq pA pS V E : Int) (w : World) (hr0 : Hid (IRow w v0 x n)) (hn : n ≤ 64)
    (KN : Hid (∀ W, Calls Try.prog 65 #[.agg (tC (mkT x n)), .agg #[.int .i64 f, .int .i64 t]] W fun e w' => e = .returned (.tuple #[.agg #[.int .i64 pA, .int .i64 pS], .int .i64 0]) ∧ Below W.heap.size W w'))
    (KE : Hid (∀ W, Calls Try.prog 66 #[.agg (tC (mkT x n)), .agg #[.int .i64 f, .int .i64 t], .int .i64 sq] W fun e w' => e = .returned (.tuple #[.int .i64 V, .int .i64 E]) ∧ Below W.heap.size W w'))
    (KX : Hid (∀ W, Calls Try.prog 23 #[.agg (tC (mkT x n))] W fun e w' => e = .returned (.tuple #[.int .i64 (tN (mkT x n) 64), .int .i64 0]) ∧ Below W.heap.size W w'))
    (KG : Hid (∀ W, Calls Try.prog 67 #[.agg #[.int .i64 f, .int .i64 t]] W fun e w' => e = .returned (.int .i64 0) ∧ Below W.heap.size W w'))
    (KRE : Hid (∀ W, Calls Try.prog 68 #[.agg (tC (mkT x n)), .agg #[.int .i64 f, .int .i64 t], .int .i64 sq] W fun e w' => e = .returned (.tuple #[.int .i64 V, .int .i64 E]) ∧ Below W.heap.size W w'))
    (KRN : Hid (∀ W, Calls Try.prog 69 #[.agg (tC (mkT x n)), .agg #[.int .i64 f, .int .i64 t]] W fun e w' => e = .returned (.agg #[.int .i64 pA, .int .i64 pS]) ∧ Below W.heap.size W w')) :
    Calls Try.prog 14 #[v0, .agg #[.int .i64 f, .int .i64 t], .int .i64 sq] w fun e w' => e = .returned (.bool true) ∧ Below w.heap.size w w' := by
  have KA := Lib.hid awake3_any
  have KM0 := Lib.hid (fun W (hB : Below w.heap.size w W) => made_any v0 x n W (by omega) (Lib.hid (hr0.out.below hB)))
  obtain ⟨q0, c0, rfl, hc0, -⟩ := hr0.out
  have d0 : decide (64 < (n : Int)) = false := decide_eq_false (by omega)
  have HZ := Lib.hid zero_trace
  have hs0 := Lib.hid (tC_size fun _ => 0)
  have hsc := Lib.hid (tC_size (mkT x n))
  have hoc := Lib.hid (tC_one (mkT x n))
  clear hr0 hc0
  generalize tN (mkT x n) 64 = nx at *
  generalize tC (mkT x n) = c at *
  generalize (tC fun _ => 0) = z at *
  have hinT : (Try.prog.info? 26).map (·.size) = some c.size := by rw [hsc.out]; exact infoTrace
  go_enter Try.func14, Try.ntmps14
  go_wp2_with fail; (refine (KA.out _).mono ?_; rintro e w1 ⟨rfl, hw1⟩; obtain ⟨hcw1, hfw1, hlw1, hmw1, hnw1⟩ := bcell3 hw1; have hzw1 := hw1.size; (try simp only [World.size_alloc, World.size_setCell, World.size_drew, size_drewN] at hzw1))
  have cg1_0 : w1.cell? ⟨w.heap.size, 0, none⟩ = some (.int .i64 (f)) := (hcw1 (w.heap.size) (0) (by first | omega | (simp only [World.size_alloc, World.size_drew, World.size_setCell, size_drewN]; omega))).trans (by first | assumption | (simp [go_sem, *]; done)); have cg1_1 : w1.cell? ⟨w.heap.size, 1, none⟩ = some (.int .i64 (t)) := (hcw1 (w.heap.size) (1) (by first | omega | (simp only [World.size_alloc, World.size_drew, World.size_setCell, size_drewN]; omega))).trans (by first | assumption | (simp [go_sem, *]; done)); have og1 : w.heap.size < w1.heap.size := (by omega)
  clear hcw1 hfw1 hlw1 hmw1 hnw1
  have hB1 : Below w.heap.size w w1 := by (repeat' (first | (with_reducible exact Below.refl _ _) | (with_reducible assumption) | (with_reducible refine Below.alloc ?_ ?_ _) | (with_reducible refine Below.drew ?_) | (with_reducible refine below_drewN ?_ _) | (with_reducible refine Below.setCell ?_ ?_ _) | (with_reducible refine below_step (by with_reducible assumption) ?_ ?_) | (with_reducible exact Below.size (by with_reducible assumption)) | go_size))
  go_wp2_with fail; (refine (KM0.out _ hB1).mono ?_; rintro e w2 ⟨rfl, hw2⟩; obtain ⟨hcw2, hfw2, hlw2, hmw2, hnw2⟩ := bcell3 hw2; have hzw2 := hw2.size; (try simp only [World.size_alloc, World.size_setCell, World.size_drew, size_drewN] at hzw2))
  have cg2_0 : w2.cell? ⟨w.heap.size, 0, none⟩ = some (.int .i64 (f)) := (hcw2 (w.heap.size) (0) (by first | omega | (simp only [World.size_alloc, World.size_drew, World.size_setCell, size_drewN]; omega))).trans (by first | assumption | (simp [go_sem, *]; done)); have cg2_1 : w2.cell? ⟨w.heap.size, 1, none⟩ = some (.int .i64 (t)) := (hcw2 (w.heap.size) (1) (by first | omega | (simp only [World.size_alloc, World.size_drew, World.size_setCell, size_drewN]; omega))).trans (by first | assumption | (simp [go_sem, *]; done)); have og2 : w.heap.size < w2.heap.size := (by omega)
  clear cg1_0 cg1_1
  clear hcw2 hfw2 hlw2 hmw2 hnw2
  have hlg2 : w.heap.size < w2.heap.size := by omega
  go_wp2_with (first | (refine wpl_alloc rfl 26 z rfl (HZ.out _) ?_) | (refine wpl_store_new rfl 26 _ _ z c rfl rfl rfl (by rw [hsc.out]; exact infoTrace) (by rw [hs0.out, hsc.out]) hoc.out ?_) | (refine wpl_load rfl 26 26 _ w2.heap.size c (0, 0) _ rfl rfl Try.underlying26 rfl (by rw [hsc.out]; exact infoTrace) (heap_alloc_last w2 _) ?_))
  go_wp2_with fail; (refine (KN.out _).mono ?_; rintro e w3 ⟨rfl, hw3⟩; obtain ⟨hcw3, hfw3, hlw3, hmw3, hnw3⟩ := bcell3 hw3; have hzw3 := hw3.size; (try simp only [World.size_alloc, World.size_setCell, World.size_drew, size_drewN] at hzw3))
  have cg3_0 : w3.cell? ⟨w.heap.size, 0, none⟩ = some (.int .i64 (f)) := (hcw3 (w.heap.size) (0) (by first | omega | (simp only [World.size_alloc, World.size_drew, World.size_setCell, size_drewN]; omega))).trans (by first | assumption | (simp [go_sem, *]; done)); have cg3_1 : w3.cell? ⟨w.heap.size, 1, none⟩ = some (.int .i64 (t)) := (hcw3 (w.heap.size) (1) (by first | omega | (simp only [World.size_alloc, World.size_drew, World.size_setCell, size_drewN]; omega))).trans (by first | assumption | (simp [go_sem, *]; done)); have og3 : w.heap.size < w3.heap.size := (by omega)
  clear cg2_0 cg2_1
  have ca3_0 : w3.heap[w2.heap.size]? = some (.cells (c) 26 (0, 0)) := block_below0 hw3 (by first | assumption | (repeat (first | assumption | (refine heap_alloc_at ?_; (first | rfl | (simp only [World.size_alloc, World.size_drew, World.size_setCell, size_drewN]; done))) | refine block_alloc ?_)))
  clear hcw3 hfw3 hlw3 hmw3 hnw3
  go_wp2_with (refine wpl_load rfl 26 26 _ w2.heap.size c (0, 0) _ rfl rfl Try.underlying26 rfl (by rw [hsc.out]; exact infoTrace) (block_alloc ca3_0) ?_)
  go_wp2_with fail; (refine (KE.out _).mono ?_; rintro e w4 ⟨rfl, hw4⟩; obtain ⟨hcw4, hfw4, hlw4, hmw4, hnw4⟩ := bcell3 hw4; have hzw4 := hw4.size; (try simp only [World.size_alloc, World.size_setCell, World.size_drew, size_drewN] at hzw4))
  have cg4_0 : w4.cell? ⟨w.heap.size, 0, none⟩ = some (.int .i64 (f)) := (hcw4 (w.heap.size) (0) (by first | omega | (simp only [World.size_alloc, World.size_drew, World.size_setCell, size_drewN]; omega))).trans (by first | assumption | (simp [go_sem, *]; done)); have cg4_1 : w4.cell? ⟨w.heap.size, 1, none⟩ = some (.int .i64 (t)) := (hcw4 (w.heap.size) (1) (by first | omega | (simp only [World.size_alloc, World.size_drew, World.size_setCell, size_drewN]; omega))).trans (by first | assumption | (simp [go_sem, *]; done)); have og4 : w.heap.size < w4.heap.size := (by omega)
  clear cg3_0 cg3_1
  have ca4_0 : w4.heap[w2.heap.size]? = some (.cells (c) 26 (0, 0)) := block_below0 hw4 (by first | assumption | (repeat (first | assumption | (refine heap_alloc_at ?_; (first | rfl | (simp only [World.size_alloc, World.size_drew, World.size_setCell, size_drewN]; done))) | refine block_alloc ?_)))
  clear ca3_0
  have cp4_0 : w4.cell? ⟨w3.heap.size, 0, none⟩ = some (.int .i64 (pA)) := (hcw4 (w3.heap.size) (0) (by first | omega | (simp only [World.size_alloc, World.size_drew, World.size_setCell, size_drewN]; omega))).trans (by first | assumption | (simp [go_sem, *]; done)); have cp4_1 : w4.cell? ⟨w3.heap.size, 1, none⟩ = some (.int .i64 (pS)) := (hcw4 (w3.heap.size) (1) (by first | omega | (simp only [World.size_alloc, World.size_drew, World.size_setCell, size_drewN]; omega))).trans (by first | assumption | (simp [go_sem, *]; done)); have op4 : w3.heap.size < w4.heap.size := (by omega)
  clear hcw4 hfw4 hlw4 hmw4 hnw4
  go_wp2_with (refine wpl_load rfl 26 26 _ w2.heap.size c (0, 0) _ rfl rfl Try.underlying26 rfl (by rw [hsc.out]; exact infoTrace) ca4_0 ?_)
  go_wp2_with fail; (refine (KX.out _).mono ?_; rintro e w5 ⟨rfl, hw5⟩; obtain ⟨hcw5, hfw5, hlw5, hmw5, hnw5⟩ := bcell3 hw5; have hzw5 := hw5.size; (try simp only [World.size_alloc, World.size_setCell, World.size_drew, size_drewN] at hzw5))
  have cg5_0 : w5.cell? ⟨w.heap.size, 0, none⟩ = some (.int .i64 (f)) := (hcw5 (w.heap.size) (0) (by first | omega | (simp only [World.size_alloc, World.size_drew, World.size_setCell, size_drewN]; omega))).trans (by first | assumption | (simp [go_sem, *]; done)); have cg5_1 : w5.cell? ⟨w.heap.size, 1, none⟩ = some (.int .i64 (t)) := (hcw5 (w.heap.size) (1) (by first | omega | (simp only [World.size_alloc, World.size_drew, World.size_setCell, size_drewN]; omega))).trans (by first | assumption | (simp [go_sem, *]; done)); have og5 : w.heap.size < w5.heap.size := (by omega)
  clear cg4_0 cg4_1
  have ca5_0 : w5.heap[w2.heap.size]? = some (.cells (c) 26 (0, 0)) := block_below0 hw5 (by first | assumption | (repeat (first | assumption | (refine heap_alloc_at ?_; (first | rfl | (simp only [World.size_alloc, World.size_drew, World.size_setCell, size_drewN]; done))) | refine block_alloc ?_)))
  clear ca4_0
  have cp5_0 : w5.cell? ⟨w3.heap.size, 0, none⟩ = some (.int .i64 (pA)) := (hcw5 (w3.heap.size) (0) (by first | omega | (simp only [World.size_alloc, World.size_drew, World.size_setCell, size_drewN]; omega))).trans (by first | assumption | (simp [go_sem, *]; done)); have cp5_1 : w5.cell? ⟨w3.heap.size, 1, none⟩ = some (.int .i64 (pS)) := (hcw5 (w3.heap.size) (1) (by first | omega | (simp only [World.size_alloc, World.size_drew, World.size_setCell, size_drewN]; omega))).trans (by first | assumption | (simp [go_sem, *]; done)); have op5 : w3.heap.size < w5.heap.size := (by omega)
  clear cp4_0 cp4_1
  clear hcw5 hfw5 hlw5 hmw5 hnw5
  go_wp2_with fail; (refine (KG.out _).mono ?_; rintro e w6 ⟨rfl, hw6⟩; obtain ⟨hcw6, hfw6, hlw6, hmw6, hnw6⟩ := bcell3 hw6; have hzw6 := hw6.size; (try simp only [World.size_alloc, World.size_setCell, World.size_drew, size_drewN] at hzw6))
  have cg6_0 : w6.cell? ⟨w.heap.size, 0, none⟩ = some (.int .i64 (f)) := (hcw6 (w.heap.size) (0) (by first | omega | (simp only [World.size_alloc, World.size_drew, World.size_setCell, size_drewN]; omega))).trans (by first | assumption | (simp [go_sem, *]; done)); have cg6_1 : w6.cell? ⟨w.heap.size, 1, none⟩ = some (.int .i64 (t)) := (hcw6 (w.heap.size) (1) (by first | omega | (simp only [World.size_alloc, World.size_drew, World.size_setCell, size_drewN]; omega))).trans (by first | assumption | (simp [go_sem, *]; done)); have og6 : w.heap.size < w6.heap.size := (by omega)
  clear cg5_0 cg5_1
  have ca6_0 : w6.heap[w2.heap.size]? = some (.cells (c) 26 (0, 0)) := block_below0 hw6 (by first | assumption | (repeat (first | assumption | (refine heap_alloc_at ?_; (first | rfl | (simp only [World.size_alloc, World.size_drew, World.size_setCell, size_drewN]; done))) | refine block_alloc ?_)))
  clear ca5_0
  have cp6_0 : w6.cell? ⟨w3.heap.size, 0, none⟩ = some (.int .i64 (pA)) := (hcw6 (w3.heap.size) (0) (by first | omega | (simp only [World.size_alloc, World.size_drew, World.size_setCell, size_drewN]; omega))).trans (by first | assumption | (simp [go_sem, *]; done)); have cp6_1 : w6.cell? ⟨w3.heap.size, 1, none⟩ = some (.int .i64 (pS)) := (hcw6 (w3.heap.size) (1) (by first | omega | (simp only [World.size_alloc, World.size_drew, World.size_setCell, size_drewN]; omega))).trans (by first | assumption | (simp [go_sem, *]; done)); have op6 : w3.heap.size < w6.heap.size := (by omega)
  clear cp5_0 cp5_1
  clear hcw6 hfw6 hlw6 hmw6 hnw6
  go_wp2_with (refine wpl_load rfl 26 26 _ w2.heap.size c (0, 0) _ rfl rfl Try.underlying26 rfl (by rw [hsc.out]; exact infoTrace) ca6_0 ?_)
  go_wp2_with fail; (refine (KRE.out _).mono ?_; rintro e w7 ⟨rfl, hw7⟩; obtain ⟨hcw7, hfw7, hlw7, hmw7, hnw7⟩ := bcell3 hw7; have hzw7 := hw7.size; (try simp only [World.size_alloc, World.size_setCell, World.size_drew, size_drewN] at hzw7))
  have cg7_0 : w7.cell? ⟨w.heap.size, 0, none⟩ = some (.int .i64 (f)) := (hcw7 (w.heap.size) (0) (by first | omega | (simp only [World.size_alloc, World.size_drew, World.size_setCell, size_drewN]; omega))).trans (by first | assumption | (simp [go_sem, *]; done)); have cg7_1 : w7.cell? ⟨w.heap.size, 1, none⟩ = some (.int .i64 (t)) := (hcw7 (w.heap.size) (1) (by first | omega | (simp only [World.size_alloc, World.size_drew, World.size_setCell, size_drewN]; omega))).trans (by first | assumption | (simp [go_sem, *]; done)); have og7 : w.heap.size < w7.heap.size := (by omega)
  clear cg6_0 cg6_1
  have ca7_0 : w7.heap[w2.heap.size]? = some (.cells (c) 26 (0, 0)) := block_below0 hw7 (by first | assumption | (repeat (first | assumption | (refine heap_alloc_at ?_; (first | rfl | (simp only [World.size_alloc, World.size_drew, World.size_setCell, size_drewN]; done))) | refine block_alloc ?_)))
  clear ca6_0
  have cp7_0 : w7.cell? ⟨w3.heap.size, 0, none⟩ = some (.int .i64 (pA)) := (hcw7 (w3.heap.size) (0) (by first | omega | (simp only [World.size_alloc, World.size_drew, World.size_setCell, size_drewN]; omega))).trans (by first | assumption | (simp [go_sem, *]; done)); have cp7_1 : w7.cell? ⟨w3.heap.size, 1, none⟩ = some (.int .i64 (pS)) := (hcw7 (w3.heap.size) (1) (by first | omega | (simp only [World.size_alloc, World.size_drew, World.size_setCell, size_drewN]; omega))).trans (by first | assumption | (simp [go_sem, *]; done)); have op7 : w3.heap.size < w7.heap.size := (by omega)
  clear cp6_0 cp6_1
  clear hcw7 hfw7 hlw7 hmw7 hnw7
  go_wp2_with fail
  refine wp_region_held_drew (S := fun w' => w'.heap[w2.heap.size]? = some (.cells (c) 26 (0, 0)) ∧ w'.cell? ⟨w.heap.size, 0, none⟩ = some (.int .i64 (f)) ∧ w'.cell? ⟨w.heap.size, 1, none⟩ = some (.int .i64 (t)) ∧ w'.cell? ⟨w3.heap.size, 0, none⟩ = some (.int .i64 (pA)) ∧ w'.cell? ⟨w3.heap.size, 1, none⟩ = some (.int .i64 (pS))) (by kernel_rfl) ?_ (fun hH1 => ?_)
  · (first | assumption | (refine ⟨?_, ?_, ?_, ?_, ?_⟩ <;> (first | assumption | ((repeat (first | assumption | (refine heap_alloc_at ?_; (first | rfl | (simp only [World.size_alloc, World.size_drew, World.size_setCell, size_drewN]; done))) | refine block_alloc ?_ | refine Buf.alloc ?_ _ | refine Buf.drew ?_ | refine Buf.setCell ?_ (by omega) _ _)); done) | (go_keep; done) | (simp [*, go_sem]; done))))
  refine wpAnyH_pure (i := 0) (v := ?_) rfl (by kernel_rfl) (by kernel_rfl) (by kernel_rfl) (fun _ _ _ h => h) (by rfl) (by assumption) ?_ ?_
  rotate_left
  · (intro w hSw; (try dsimp only at hSw); go_simp; (try with_reducible rfl))
  simp only [Act.put, List.getElem_toArray, List.getElem_cons_succ, List.getElem_cons_zero, List.setIfInBounds_toArray, List.set_cons_zero, List.set_cons_succ]
  refine wpAnyH_pure (i := 1) (v := ?_) rfl (by kernel_rfl) (by kernel_rfl) (by kernel_rfl) (fun _ _ _ h => h) (by rfl) (by assumption) ?_ ?_
  rotate_left
  · (intro w hSw; (try dsimp only at hSw); go_simp; (try with_reducible rfl))
  simp only [Act.put, List.getElem_toArray, List.getElem_cons_succ, List.getElem_cons_zero, List.setIfInBounds_toArray, List.set_cons_zero, List.set_cons_succ]
  refine wpAnyH_pure (i := 2) (v := ?_) rfl (by kernel_rfl) (by kernel_rfl) (by kernel_rfl) (fun _ _ _ h => h) (by rfl) (by assumption) ?_ ?_
  rotate_left
  · (intro w hSw; (try dsimp only at hSw); go_simp; (try with_reducible rfl))
  simp only [Act.put, List.getElem_toArray, List.getElem_cons_succ, List.getElem_cons_zero, List.setIfInBounds_toArray, List.set_cons_zero, List.set_cons_succ]
  refine wpAnyH_pure (i := 3) (v := ?_) rfl (by kernel_rfl) (by kernel_rfl) (by kernel_rfl) (fun _ _ _ h => h) (by first | rfl | (simp [Region.wanted, yielded, *]; done)) (by assumption) ?_ ?_
  rotate_left
  · (intro w hSw; (try dsimp only at hSw); go_simp; (try with_reducible rfl))
  simp only [Act.put, List.getElem_toArray, List.getElem_cons_succ, List.getElem_cons_zero, List.setIfInBounds_toArray, List.set_cons_zero, List.set_cons_succ]
  refine wpAnyH_pure (i := 4) (v := ?_) rfl (by kernel_rfl) (by kernel_rfl) (by kernel_rfl) (fun _ _ _ h => h) (by first | rfl | (simp [Region.wanted, yielded, *]; done)) (by assumption) ?_ ?_
  rotate_left
  · (intro w hSw; (try dsimp only at hSw); refine exec_load_arr 26 (p := .tmp 7) ?_ ?_ Try.underlying26 (hinT) (by repeat (first | exact hSw | exact hSw.1 | replace hSw := hSw.2)) <;> rfl)
  simp only [Act.put, List.getElem_toArray, List.getElem_cons_succ, List.getElem_cons_zero, List.setIfInBounds_toArray, List.set_cons_zero, List.set_cons_succ]
  refine wpAnyH_pure (i := 5) (v := ?_) rfl (by kernel_rfl) (by kernel_rfl) (by kernel_rfl) (fun _ _ _ h => h) (by first | rfl | (simp [Region.wanted, yielded, *]; done)) (by assumption) ?_ ?_
  rotate_left
  · (intro w hSw; (try dsimp only at hSw); go_simp; (try with_reducible rfl))
  simp only [Act.put, List.getElem_toArray, List.getElem_cons_succ, List.getElem_cons_zero, List.setIfInBounds_toArray, List.set_cons_zero, List.set_cons_succ]
  refine wpAnyH_ready (rs := [6]) (by kernel_rfl) (by simp) ?_
  refine AllReadyH.cons rfl (fun Kq hKq => ?_) AllReadyH.nil
  go_simp
  refine (KRN.out _).mono ?_
  (rintro e w8 ⟨rfl, hw8⟩)
  obtain ⟨hcw8, hfw8, hlw8, hmw8, hnw8⟩ := bcell3 hw8
  have hzw8 := hw8.size
  (try simp only [World.size_alloc, World.size_setCell, World.size_drew, size_drewN] at hzw8)
  have cg8_0 : w8.cell? ⟨w.heap.size, 0, none⟩ = some (.int .i64 (f)) := (hcw8 (w.heap.size) (0) (by first | omega | (simp only [World.size_alloc, World.size_drew, World.size_setCell, size_drewN]; omega))).trans (by first | assumption | (simp [go_sem, *]; done)); have cg8_1 : w8.cell? ⟨w.heap.size, 1, none⟩ = some (.int .i64 (t)) := (hcw8 (w.heap.size) (1) (by first | omega | (simp only [World.size_alloc, World.size_drew, World.size_setCell, size_drewN]; omega))).trans (by first | assumption | (simp [go_sem, *]; done)); have og8 : w.heap.size < w8.heap.size := (by omega)
  clear cg7_0 cg7_1
  have ca8_0 : w8.heap[w2.heap.size]? = some (.cells (c) 26 (0, 0)) := block_below0 hw8 (by first | assumption | (repeat (first | assumption | (refine heap_alloc_at ?_; (first | rfl | (simp only [World.size_alloc, World.size_drew, World.size_setCell, size_drewN]; done))) | refine block_alloc ?_)))
  clear ca7_0
  have cp8_0 : w8.cell? ⟨w3.heap.size, 0, none⟩ = some (.int .i64 (pA)) := (hcw8 (w3.heap.size) (0) (by first | omega | (simp only [World.size_alloc, World.size_drew, World.size_setCell, size_drewN]; omega))).trans (by first | assumption | (simp [go_sem, *]; done)); have cp8_1 : w8.cell? ⟨w3.heap.size, 1, none⟩ = some (.int .i64 (pS)) := (hcw8 (w3.heap.size) (1) (by first | omega | (simp only [World.size_alloc, World.size_drew, World.size_setCell, size_drewN]; omega))).trans (by first | assumption | (simp [go_sem, *]; done)); have op8 : w3.heap.size < w8.heap.size := (by omega)
  clear cp7_0 cp7_1
  refine hKq.out _ _ ?_ (fun hH2 => ?_)
  · (first | assumption | (refine ⟨?_, ?_, ?_, ?_, ?_⟩ <;> (first | assumption | ((repeat (first | assumption | (refine heap_alloc_at ?_; (first | rfl | (simp only [World.size_alloc, World.size_drew, World.size_setCell, size_drewN]; done))) | refine block_alloc ?_ | refine Buf.alloc ?_ _ | refine Buf.drew ?_ | refine Buf.setCell ?_ (by omega) _ _)); done) | (go_keep; done) | (simp [*, go_sem]; done))))
  clear hKq Kq
  clear hH1
  refine wpAnyH_pure (i := 7) (v := ?_) rfl (by kernel_rfl) (by kernel_rfl) (by kernel_rfl) (fun _ _ _ h => h) (by first | rfl | (simp [Region.wanted, yielded, *]; done)) (by assumption) ?_ ?_
  rotate_left
  · (intro w hSw; (try dsimp only at hSw); go_simp; (try with_reducible rfl))
  simp only [Act.put, List.getElem_toArray, List.getElem_cons_succ, List.getElem_cons_zero, List.setIfInBounds_toArray, List.set_cons_zero, List.set_cons_succ]
  refine wpAnyH_pure (i := 8) (v := ?_) rfl (by kernel_rfl) (by kernel_rfl) (by kernel_rfl) (fun _ _ _ h => h) (by rfl) (by assumption) ?_ ?_
  rotate_left
  · (intro w hSw; (try dsimp only at hSw); go_simp; (try with_reducible rfl))
  simp only [Act.put, List.getElem_toArray, List.getElem_cons_succ, List.getElem_cons_zero, List.setIfInBounds_toArray, List.set_cons_zero, List.set_cons_succ]
  refine wpAnyH_pure (i := 9) (v := ?_) rfl (by kernel_rfl) (by kernel_rfl) (by kernel_rfl) (fun _ _ _ h => h) (by rfl) (by assumption) ?_ ?_
  rotate_left
  · (intro w hSw; (try dsimp only at hSw); go_simp; (try with_reducible rfl))
  simp only [Act.put, List.getElem_toArray, List.getElem_cons_succ, List.getElem_cons_zero, List.setIfInBounds_toArray, List.set_cons_zero, List.set_cons_succ]
  refine wpAnyH_pure (i := 10) (v := ?_) rfl (by kernel_rfl) (by kernel_rfl) (by kernel_rfl) (fun _ _ _ h => h) (by first | rfl | (simp [Region.wanted, yielded, *]; done)) (by assumption) ?_ ?_
  rotate_left
  · (intro w hSw; (try dsimp only at hSw); go_simp; (try with_reducible rfl))
  simp only [Act.put, List.getElem_toArray, List.getElem_cons_succ, List.getElem_cons_zero, List.setIfInBounds_toArray, List.set_cons_zero, List.set_cons_succ]
  refine wpAnyH_pure (i := 11) (v := ?_) rfl (by kernel_rfl) (by kernel_rfl) (by kernel_rfl) (fun _ _ _ h => h) (by first | rfl | (simp [Region.wanted, yielded, *]; done)) (by assumption) ?_ ?_
  rotate_left
  · (intro w hSw; (try dsimp only at hSw); go_simp; (try with_reducible rfl))
  simp only [Act.put, List.getElem_toArray, List.getElem_cons_succ, List.getElem_cons_zero, List.setIfInBounds_toArray, List.set_cons_zero, List.set_cons_succ]
  refine wpAnyH_pure (i := 12) (v := ?_) rfl (by kernel_rfl) (by kernel_rfl) (by kernel_rfl) (fun _ _ _ h => h) (by first | rfl | (simp [Region.wanted, yielded, *]; done)) (by assumption) ?_ ?_
  rotate_left
  · (intro w hSw; (try dsimp only at hSw); go_simp; (try with_reducible rfl))
  simp only [Act.put, List.getElem_toArray, List.getElem_cons_succ, List.getElem_cons_zero, List.setIfInBounds_toArray, List.set_cons_zero, List.set_cons_succ]
  refine wpAnyH_pure (i := 13) (v := ?_) rfl (by kernel_rfl) (by kernel_rfl) (by kernel_rfl) (fun _ _ _ h => h) (by rfl) (by assumption) ?_ ?_
  rotate_left
  · (intro w hSw; (try dsimp only at hSw); go_simp; (try with_reducible rfl))
  simp only [Act.put, List.getElem_toArray, List.getElem_cons_succ, List.getElem_cons_zero, List.setIfInBounds_toArray, List.set_cons_zero, List.set_cons_succ]
  refine wpAnyH_pure (i := 14) (v := ?_) rfl (by kernel_rfl) (by kernel_rfl) (by kernel_rfl) (fun _ _ _ h => h) (by rfl) (by assumption) ?_ ?_
  rotate_left
  · (intro w hSw; (try dsimp only at hSw); go_simp; (try with_reducible rfl))
  simp only [Act.put, List.getElem_toArray, List.getElem_cons_succ, List.getElem_cons_zero, List.setIfInBounds_toArray, List.set_cons_zero, List.set_cons_succ]
  refine wpAnyH_pure (i := 15) (v := ?_) rfl (by kernel_rfl) (by kernel_rfl) (by kernel_rfl) (fun _ _ _ h => h) (by first | rfl | (simp [Region.wanted, yielded, *]; done)) (by assumption) ?_ ?_
  rotate_left
  · (intro w hSw; (try dsimp only at hSw); go_simp; (try with_reducible rfl))
  simp only [Act.put, List.getElem_toArray, List.getElem_cons_succ, List.getElem_cons_zero, List.setIfInBounds_toArray, List.set_cons_zero, List.set_cons_succ]
  refine wpAnyH_pure (i := 16) (v := ?_) rfl (by kernel_rfl) (by kernel_rfl) (by kernel_rfl) (fun _ _ _ h => h) (by first | rfl | (simp [Region.wanted, yielded, *]; done)) (by assumption) ?_ ?_
  rotate_left
  · (intro w hSw; (try dsimp only at hSw); go_simp; (try with_reducible rfl))
  simp only [Act.put, List.getElem_toArray, List.getElem_cons_succ, List.getElem_cons_zero, List.setIfInBounds_toArray, List.set_cons_zero, List.set_cons_succ]
  refine wpAnyH_pure (i := 17) (v := ?_) rfl (by kernel_rfl) (by kernel_rfl) (by kernel_rfl) (fun _ _ _ h => h) (by first | rfl | (simp [Region.wanted, yielded, *]; done)) (by assumption) ?_ ?_
  rotate_left
  · (intro w hSw; (try dsimp only at hSw); go_simp; (try with_reducible rfl))
  simp only [Act.put, List.getElem_toArray, List.getElem_cons_succ, List.getElem_cons_zero, List.setIfInBounds_toArray, List.set_cons_zero, List.set_cons_succ]
  refine wpAnyH_pure (i := 18) (v := ?_) rfl (by kernel_rfl) (by kernel_rfl) (by kernel_rfl) (fun _ _ _ h => h) (by rfl) (by assumption) ?_ ?_
  rotate_left
  · (intro w hSw; (try dsimp only at hSw); go_simp; (try with_reducible rfl))
  simp only [Act.put, List.getElem_toArray, List.getElem_cons_succ, List.getElem_cons_zero, List.setIfInBounds_toArray, List.set_cons_zero, List.set_cons_succ]
  refine wpAnyH_pure (i := 19) (v := ?_) rfl (by kernel_rfl) (by kernel_rfl) (by kernel_rfl) (fun _ _ _ h => h) (by rfl) (by assumption) ?_ ?_
  rotate_left
  · (intro w hSw; (try dsimp only at hSw); go_simp; (try with_reducible rfl))
  simp only [Act.put, List.getElem_toArray, List.getElem_cons_succ, List.getElem_cons_zero, List.setIfInBounds_toArray, List.set_cons_zero, List.set_cons_succ]
  refine wpAnyH_done (by kernel_rfl) ?_ _
  go_wp2
  go_ret
  exact ⟨rfl, by (repeat' (first | (with_reducible exact Below.refl _ _) | (with_reducible assumption) | (with_reducible refine Below.alloc ?_ ?_ _) | (with_reducible refine Below.drew ?_) | (with_reducible refine below_drewN ?_ _) | (with_reducible refine Below.setCell ?_ ?_ _) | (with_reducible refine below_step (by with_reducible assumption) ?_ ?_) | (with_reducible exact Below.size (by with_reducible assumption)) | go_size))⟩
theorem gtE_zero {f t : Int} (h : gtE f t = 0) : ∃ a b : Nat, f = (a : Int) ∧ t = (b : Int) ∧ a ≤ b ∧ b ≤ 60 := by
  unfold gtE at h
  have h1 : inB f 0 60 = true := by
    cases c : inB f 0 60
    · rw [c] at h; simp [frst, unl] at h
    · rfl
  rw [h1] at h
  have h2 : inB t 0 60 = true := by
    cases c : inB t 0 60
    · rw [c] at h; simp [frst, unl] at h
    · rfl
  rw [h2] at h
  have h3 : f ≤ t := by
    by_cases c : f ≤ t
    · exact c
    · rw [decide_eq_false c] at h; simp [frst, unl] at h
  have b1 := of_decide_eq_true h1
  have b2 := of_decide_eq_true h2
  exact ⟨f.toNat, t.toNat, by omega, by omega, by omega, by omega⟩
theorem frst2_c {a b : Int} : frst [a, b] = if a = 0 then b else a := by
  unfold frst
  split
  · unfold frst
    split
    · rename_i h; rw [h]; rfl
    · rfl
  · rfl
theorem tracePeaks_any (w : World) (v0 : Value) (x : Nat → Int) (n : Nat) (hr0 : Hid (IRow w v0 x n)) (f t sq : Int) :
    Calls Try.prog 14 #[v0, .agg #[.int .i64 f, .int .i64 t], .int .i64 sq] w fun e w' => e = .returned (.bool true) ∧ Below w.heap.size w w' := by
  by_cases hn : n ≤ 64
  · have kx : ∀ W, _ := fun W => checkTraceR_any (mkT x n) W (mkT_24 x n)
    by_cases cx : tE (mkT x n) 64 = 0
    · have hx := Lib.hid (tE_zero cx)
      rw [cx] at kx
      have KG := fun W => gateErrR_any f t W
      by_cases cg : gtE f t = 0
      · rw [cg] at KG
        obtain ⟨a, b, rfl, rfl, hab, hb⟩ := gtE_zero cg
        obtain ⟨p1, p2, p3⟩ := pmx_spec (anS (mkT x n)) a (b + 1 - a) (by omega)
        have hbe : (b : Int) = (a : Int) + ((b + 1 - a : Nat) : Int) - 1 := by omega
        have KRN : ∀ W, _ := fun W => peakInR_ok (mkT x n) a (b + 1 - a) W hx (by omega) (by omega)
        rw [← hbe] at KRN
        refine tracePk_good v0 x n (a : Int) (b : Int) sq _ _ (faV (anS (mkT x n)) a (b + 1 - a) sq) (faE (anS (mkT x n)) a (b + 1 - a) sq) w hr0 hn (Lib.hid fun W => peakIn_ok (mkT x n) a b _ W hx ⟨hab, hb⟩ (by omega) (Lib.hid p2) (Lib.hid p3)) (Lib.hid fun W => firstAbove_ok (mkT x n) a b sq W hx ⟨hab, hb⟩) (Lib.hid kx) (Lib.hid KG) ?_ (Lib.hid KRN)
        by_cases hq : sq < 0
        · have k2 : ∀ W, _ := fun W => firstAboveR_neg (mkT x n) (a : Int) (b : Int) sq W hq
          rw [show faV (anS (mkT x n)) a (b + 1 - a) sq = 0 by unfold faV; rw [if_pos hq], show faE (anS (mkT x n)) a (b + 1 - a) sq = 2 by unfold faE; rw [if_pos hq]]
          exact Lib.hid k2
        · have k2 : ∀ W, _ := fun W => firstAboveR_ok (mkT x n) a (b + 1 - a) sq W hx (by omega) (by omega) hq
          rw [← hbe] at k2
          exact Lib.hid k2
      · have he : frst [0, gtE f t] = gtE f t := by rw [frst2_c, if_pos rfl]
        have KQ : ∀ W, _ := fun W => squaresIn_err (mkT x n) (anS (mkT x n)) f t 0 W (Lib.hid fun W => envelope_ok (mkT x n) W hx) (by rw [he]; exact cg)
        rw [he] at KQ
        have hE : (gtE f t != 0) = true := by simpa using cg
        exact tracePk_gate v0 x n f t sq (gtE f t) w hr0 hn hE (Lib.hid fun W => peakIn_err (mkT x n) f t _ W hE (Lib.hid KQ)) (Lib.hid fun W => firstAbove_err (mkT x n) f t sq _ W hE (Lib.hid KQ)) (Lib.hid kx) (Lib.hid KG)
    · have he : frst [tE (mkT x n) 64, gtE f t] = tE (mkT x n) 64 := by rw [frst2_c, if_neg cx]
      have KQ : ∀ W, _ := fun W => squaresIn_err (mkT x n) (fun _ => 0) f t (tE (mkT x n) 64) W (Lib.hid fun W => envelope_err (mkT x n) W (mkT_24 x n) cx) (by rw [he]; exact cx)
      rw [he] at KQ
      have hE : (tE (mkT x n) 64 != 0) = true := by simpa using cx
      exact tracePk_err v0 x n f t sq _ w hr0 hn (by simpa using cx) (Lib.hid fun W => peakIn_err (mkT x n) f t _ W hE (Lib.hid KQ)) (Lib.hid fun W => firstAbove_err (mkT x n) f t sq _ W hE (Lib.hid KQ)) (Lib.hid kx)
  · exact tracePk_out v0 x n f t sq w hr0 hn
end Go.Proofs.Ythgnemkfaiejbaa
