/-
  TraceAnalytics: the walk with an error.
-/
import Derived.Test.YthgnemkfaiejbaaTEqA
import Derived.Test.YthgnemkfaiejbaaTEnvR
import Derived.Test.YthgnemkfaiejbaaTChk
import Derived.Test.YthgnemkfaiejbaaTMade
import Derived.Test.YthgnemkfaiejbaaTAwake
set_option linter.unusedVariables false
set_option linter.unusedSimpArgs false
namespace Go.Proofs.Ythgnemkfaiejbaa
open Go.RowKit

set_option maxRecDepth 100000 in
set_option maxHeartbeats 4000000 in
theorem traceAna_err (v0 : Value) (x : Nat → Int) (n : Nat) (E : Int) (w : World) (hr0 : Hid (IRow w v0 x n)) (hn : n ≤ 64) (hE : (E != 0) = true)
    (KN : Hid (∀ W, Calls Try.prog 60 #[.agg (tC (mkT x n))] W fun e w' => e = .returned (.tuple #[.agg (aC (fun _ => 0) fun _ => 0), .int .i64 E]) ∧ Below W.heap.size W w'))
    (KE : Hid (∀ W, Calls Try.prog 61 #[.agg (tC (mkT x n))] W fun e w' => e = .returned (.tuple #[.agg (sC fun _ => 0), .int .i64 E]) ∧ Below W.heap.size W w'))
    (KX : Hid (∀ W, Calls Try.prog 23 #[.agg (tC (mkT x n))] W fun e w' => e = .returned (.tuple #[.int .i64 (tN (mkT x n) 64), .int .i64 E]) ∧ Below W.heap.size W w')) :
    Calls Try.prog 11 #[v0] w fun e w' => e = .returned (.bool true) ∧ Below w.heap.size w w' := by
  have KA := Lib.hid awake3_any
  have KM0 := Lib.hid (fun W (hB : Below w.heap.size w W) => made_any v0 x n W (by omega) (Lib.hid (hr0.out.below hB)))
  obtain ⟨q0, c0, rfl, hc0, -⟩ := hr0.out
  have d0 : decide (64 < (n : Int)) = false := decide_eq_false (by omega)
  have HZ := Lib.hid zero_trace
  have hs0 := Lib.hid (tC_size fun _ => 0)
  have hsc := Lib.hid (tC_size (mkT x n))
  have hoc := Lib.hid (tC_one (mkT x n))
  have hzA := Lib.hid (aC_size (fun _ => 0) fun _ => 0)
  have hoA := Lib.hid (aC_one (fun _ => 0) fun _ => 0)
  have HZA := Lib.hid zero_ana
  have hzS := Lib.hid (sC_size fun _ => 0)
  have hoS := Lib.hid (sC_one fun _ => 0)
  have HZS := Lib.hid zero_sq
  have HQA := Lib.hid eql_ana0
  have HQS := Lib.hid (eql_sq fun _ => 0)
  have hgA : Try.prog.eqGuardType Try.prog.depth 92 = false := by kernel_rfl
  have hgS : Try.prog.eqGuardType Try.prog.depth 95 = false := by kernel_rfl
  clear hr0 hc0
  generalize tN (mkT x n) 64 = nx at *
  generalize tC (mkT x n) = c at *
  generalize (tC fun _ => 0) = z at *
  generalize (aC (fun _ => 0) fun _ => 0) = A at *
  generalize (sC fun _ => 0) = S at *
  go_enter Try.func11, Try.ntmps11
  go_wp2_with fail; (refine (KA.out _).mono ?_; rintro e w1 ⟨rfl, hw1⟩; obtain ⟨hcw1, hfw1, hlw1, hmw1, hnw1⟩ := bcell3 hw1; have hzw1 := hw1.size; (try simp only [World.size_alloc, World.size_setCell, World.size_drew, size_drewN] at hzw1))
  clear hcw1 hfw1 hlw1 hmw1 hnw1
  have hB1 : Below w.heap.size w w1 := by (repeat' (first | (with_reducible exact Below.refl _ _) | (with_reducible assumption) | (with_reducible refine Below.alloc ?_ ?_ _) | (with_reducible refine Below.drew ?_) | (with_reducible refine below_drewN ?_ _) | (with_reducible refine Below.setCell ?_ ?_ _) | (with_reducible refine below_step (by with_reducible assumption) ?_ ?_) | (with_reducible exact Below.size (by with_reducible assumption)) | go_size))
  go_wp2_with fail; (refine (KM0.out _ hB1).mono ?_; rintro e w2 ⟨rfl, hw2⟩; obtain ⟨hcw2, hfw2, hlw2, hmw2, hnw2⟩ := bcell3 hw2; have hzw2 := hw2.size; (try simp only [World.size_alloc, World.size_setCell, World.size_drew, size_drewN] at hzw2))
  clear hcw2 hfw2 hlw2 hmw2 hnw2
  go_wp2_with (first | (refine wpl_alloc rfl 26 z rfl (HZ.out _) ?_) | (refine wpl_store_new rfl 26 _ _ z c rfl rfl rfl (by rw [hsc.out]; exact infoTrace) (by rw [hs0.out, hsc.out]) hoc.out ?_) | (refine wpl_load rfl 26 26 _ w2.heap.size c (0, 0) _ rfl rfl Try.underlying26 rfl (by rw [hsc.out]; exact infoTrace) (heap_alloc_last w2 _) ?_))
  go_wp2_with fail; (refine (KN.out _).mono ?_; rintro e w3 ⟨rfl, hw3⟩; obtain ⟨hcw3, hfw3, hlw3, hmw3, hnw3⟩ := bcell3 hw3; have hzw3 := hw3.size; (try simp only [World.size_alloc, World.size_setCell, World.size_drew, size_drewN] at hzw3))
  have ca3_0 : w3.heap[w2.heap.size]? = some (.cells (c) 26 (0, 0)) := block_below0 hw3 (by first | assumption | (repeat (first | assumption | (refine heap_alloc_at ?_; (first | rfl | (simp only [World.size_alloc, World.size_drew, World.size_setCell, size_drewN]; done))) | refine block_alloc ?_)))
  clear hcw3 hfw3 hlw3 hmw3 hnw3
  go_wp2_with (first | (refine wpl_alloc rfl 92 A rfl (HZA.out _) ?_) | (refine wpl_store_new rfl 92 _ _ A A rfl rfl rfl (by rw [hzA.out]; exact infoAna) rfl hoA.out ?_) | (refine wpl_load rfl 26 26 _ w2.heap.size c (0, 0) _ rfl rfl Try.underlying26 rfl (by rw [hsc.out]; exact infoTrace) (block_alloc ca3_0) ?_))
  go_wp2_with fail; (refine (KE.out _).mono ?_; rintro e w4 ⟨rfl, hw4⟩; obtain ⟨hcw4, hfw4, hlw4, hmw4, hnw4⟩ := bcell3 hw4; have hzw4 := hw4.size; (try simp only [World.size_alloc, World.size_setCell, World.size_drew, size_drewN] at hzw4))
  have ca4_0 : w4.heap[w2.heap.size]? = some (.cells (c) 26 (0, 0)) := block_below0 hw4 (by first | assumption | (repeat (first | assumption | (refine heap_alloc_at ?_; (first | rfl | (simp only [World.size_alloc, World.size_drew, World.size_setCell, size_drewN]; done))) | refine block_alloc ?_)))
  clear ca3_0
  have cx4_0 : w4.heap[w3.heap.size]? = some (.cells (A) 92 (0, 0)) := block_below0 hw4 (by first | assumption | (repeat (first | assumption | (refine heap_alloc_at ?_; (first | rfl | (simp only [World.size_alloc, World.size_drew, World.size_setCell, size_drewN]; done))) | refine block_alloc ?_)))
  clear hcw4 hfw4 hlw4 hmw4 hnw4
  go_wp2_with (first | (refine wpl_alloc rfl 95 S rfl (HZS.out _) ?_) | (refine wpl_store_new rfl 95 _ _ S S rfl rfl rfl (by rw [hzS.out]; exact infoSq) rfl hoS.out ?_) | (refine wpl_load rfl 26 26 _ w2.heap.size c (0, 0) _ rfl rfl Try.underlying26 rfl (by rw [hsc.out]; exact infoTrace) (block_alloc ca4_0) ?_))
  go_wp2_with fail; (refine (KX.out _).mono ?_; rintro e w5 ⟨rfl, hw5⟩; obtain ⟨hcw5, hfw5, hlw5, hmw5, hnw5⟩ := bcell3 hw5; have hzw5 := hw5.size; (try simp only [World.size_alloc, World.size_setCell, World.size_drew, size_drewN] at hzw5))
  have ca5_0 : w5.heap[w2.heap.size]? = some (.cells (c) 26 (0, 0)) := block_below0 hw5 (by first | assumption | (repeat (first | assumption | (refine heap_alloc_at ?_; (first | rfl | (simp only [World.size_alloc, World.size_drew, World.size_setCell, size_drewN]; done))) | refine block_alloc ?_)))
  clear ca4_0
  have cx5_0 : w5.heap[w3.heap.size]? = some (.cells (A) 92 (0, 0)) := block_below0 hw5 (by first | assumption | (repeat (first | assumption | (refine heap_alloc_at ?_; (first | rfl | (simp only [World.size_alloc, World.size_drew, World.size_setCell, size_drewN]; done))) | refine block_alloc ?_)))
  clear cx4_0
  have cs5_0 : w5.heap[w4.heap.size]? = some (.cells (S) 95 (0, 0)) := block_below0 hw5 (by first | assumption | (repeat (first | assumption | (refine heap_alloc_at ?_; (first | rfl | (simp only [World.size_alloc, World.size_drew, World.size_setCell, size_drewN]; done))) | refine block_alloc ?_)))
  clear hcw5 hfw5 hlw5 hmw5 hnw5
  go_wp2_with (first | (refine wpl_loadg rfl 92 92 _ w3.heap.size A (0, 0) _ rfl rfl Try.underlying92 rfl (by rw [hzA.out]; exact infoAna) cx5_0 ?_) | (refine wpl_loadg rfl 95 95 _ w4.heap.size S (0, 0) _ rfl rfl Try.underlying95 rfl (by rw [hzS.out]; exact infoSq) cs5_0 ?_) | (refine wpl_build0g rfl 92 (sz := 1) A rfl (HZA.out _) Try.underlying92 (by kernel_rfl) ?_) | (refine wpl_build0g rfl 95 (sz := 1) S rfl (HZS.out _) Try.underlying95 (by kernel_rfl) ?_) | (refine wpl_eqg rfl 92 _ _ _ A A true rfl rfl rfl hgA (HQA.out _) ?_) | (refine wpl_eqg rfl 95 _ _ _ S S true rfl rfl rfl hgS (HQS.out _) ?_))
  go_ret
  exact ⟨rfl, by (repeat' (first | (with_reducible exact Below.refl _ _) | (with_reducible assumption) | (with_reducible refine Below.alloc ?_ ?_ _) | (with_reducible refine Below.drew ?_) | (with_reducible refine below_drewN ?_ _) | (with_reducible refine Below.setCell ?_ ?_ _) | (with_reducible refine below_step (by with_reducible assumption) ?_ ?_) | (with_reducible exact Below.size (by with_reducible assumption)) | go_size))⟩
end Go.Proofs.Ythgnemkfaiejbaa
