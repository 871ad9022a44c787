/-
  ANGLES of the reference: DirectionErr, Passes, and base.Lowest, IsSmall.
-/
import Derived.Test.YtegdokmgplancaaAngle
set_option linter.unusedVariables false
set_option linter.unusedSimpArgs false
namespace Go.Proofs.Ytegdokmgplancaa
open Go.RowKit

set_option maxRecDepth 100000 in
set_option maxHeartbeats 400000 in
theorem blowest_any (a b : Int) (w : World) (ha : 0 ≤ a ∧ a ≤ 9223372036854775807) (hb : 1 ≤ b ∧ b ≤ 9223372036854775807) :
    Calls Try.prog 111 #[.int .i64 a, .int .i64 b] w fun e w' => e = .returned (.agg #[.int .i64 (a / gcdR a b), .int .i64 (b / gcdR a b)]) ∧ Below w.heap.size w w' := by
  obtain ⟨g1, g2⟩ := gcdR_pos ha.1 hb.1
  have K := Lib.hid (fun W => bgcd_any a b W (by omega) (by omega))
  generalize gcdR a b = g at *
  have h0 : ¬ g = 0 := by omega
  have q1 := IntWalk.tdiv_le a g ha.1 g1
  have q2 := IntWalk.tdiv_le b g (by omega) g1
  go_enter Try.func111, Try.ntmps111
  go_wp2_with fail; (refine (K.out _).mono ?_; rintro e w1 ⟨rfl, hw1⟩; obtain ⟨hcw1, hfw1, hlw1, hmw1, hnw1⟩ := bcell3 hw1; have hzw1 := hw1.size; (try simp only [World.size_alloc, World.size_setCell, World.size_drew, size_drewN] at hzw1))
  have r1_0 : w1.cell? ⟨w.heap.size, 0, none⟩ = some (.int .i64 0) := (hcw1 (w.heap.size) 0 (by first | omega | (simp only [World.size_alloc, World.size_drew, World.size_setCell, size_drewN]; omega))).trans (by simp [go_sem, *]); have p1_0 : w1.frozen? ⟨w.heap.size, 0, none⟩ = false := (hfw1 (w.heap.size) 0 (by first | omega | (simp only [World.size_alloc, World.size_drew, World.size_setCell, size_drewN]; omega))).trans (by simp [go_sem, *]); have r1_1 : w1.cell? ⟨w.heap.size, 1, none⟩ = some (.int .i64 0) := (hcw1 (w.heap.size) 1 (by first | omega | (simp only [World.size_alloc, World.size_drew, World.size_setCell, size_drewN]; omega))).trans (by simp [go_sem, *]); have p1_1 : w1.frozen? ⟨w.heap.size, 1, none⟩ = false := (hfw1 (w.heap.size) 1 (by first | omega | (simp only [World.size_alloc, World.size_drew, World.size_setCell, size_drewN]; omega))).trans (by simp [go_sem, *]); have o1 : w.heap.size < w1.heap.size := (by omega)
  have wq1 : IntKind.i64.wrap (a.tdiv g) = a / g := IntWalk.i64_quo a g ⟨ha.1, ha.2, g1⟩
  have wq2 : IntKind.i64.wrap (b.tdiv g) = b / g := IntWalk.i64_quo b g ⟨by omega, hb.2, g1⟩
  go_wp2
  refine wp_region_still_tail 7 (by kernel_rfl) (by kernel_rfl) ?_
  change wpStill _ _ w1.drew _ _ _
  simp only [List.take_succ_cons, List.take_zero, List.drop_succ_cons, List.drop_zero]
  repeat still_step
  refine wpStill_nil ?_
  change wpList _ _ _ _ _ w1.drew
  go_wp2
  refine bodyPost_ret (by simp [results, Try.results111, go_sem, *]; rfl) rfl ?_
  exact ⟨rfl, by (repeat' (first | (with_reducible exact Below.refl _ _) | (with_reducible assumption) | (with_reducible refine Below.alloc ?_ ?_ _) | (with_reducible refine Below.drew ?_) | (with_reducible refine below_drewN ?_ _) | (with_reducible refine Below.setCell ?_ ?_ _) | (with_reducible refine below_step (by with_reducible assumption) ?_ ?_) | (with_reducible exact Below.size (by with_reducible assumption)) | go_size))⟩
end Go.Proofs.Ytegdokmgplancaa
