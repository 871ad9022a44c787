/-
  WHAT IS FASTEST PASSES: the walk of TopSnellPasses.
-/
import Derived.Test.YtpphnnbijmoodaaAngle
import Derived.Test.YtpphnnbijmoodaaAwake
set_option linter.unusedVariables false
set_option linter.unusedSimpArgs false
namespace Go.Proofs.Ytpphnnbijmoodaa
open Go.RowKit

theorem ls2P : lsL Pc = 4399984 ∧ lsH Pc = 4400000 := by
  have e : tL Pc 0 = 4400000 ∧ tH Pc 0 = 4400000 := by
    rw [PcIs]
    unfold tL tH
    simp only [show (0 : Int) - 0 = 0 from rfl, v4.1, v4.2, v5.1, v5.2]
    decide
  have hm : max Pc.X1 Pc.X2 = 0 := by rw [PcIs]; decide
  unfold lsL lsH pL
  rw [plcP, hm, if_neg (by decide), if_neg (by decide), e.1, e.2, PcIs]
  decide
theorem tpT (w : World) : Calls Try.prog 46 #[.agg #[.int .i64 2500, .int .i64 5000, .int .i64 1, .int .i64 1000], .agg #[.int .i64 0, .int .i64 (-300)], .agg #[.int .i64 0, .int .i64 400]] w fun e w' => e = .returned (.tuple #[.agg #[.int .i64 4399984, .int .i64 4400000], .int .i64 0]) ∧ Below w.heap.size w w' := by
  have := LeastTime_ok Pla 0 (-300) 0 400 w okPla okWP
  rw [show lsL (crM Pla 0 (-300) 0 400) = 4399984 from ls2P.1, show lsH (crM Pla 0 (-300) 0 400) = 4400000 from ls2P.2] at this
  exact this
set_option maxRecDepth 100000 in
set_option maxHeartbeats 1000000 in
theorem rayed_any (w : World) : Calls Try.prog 74 #[] w fun e w' => e = .returned (.bool true) ∧ Below w.heap.size w w' := by
  go_enter Try.func74, Try.ntmps74
  go_wp2_with fail; (refine (middle_any _).mono ?_; rintro e w1 ⟨rfl, hw1⟩; obtain ⟨hcw1, hfw1, hlw1, hmw1, hnw1⟩ := bcell3 hw1; have hzw1 := hw1.size; (try simp only [World.size_alloc, World.size_setCell, World.size_drew, size_drewN] at hzw1))
  go_wp2_with fail; (refine (awC _).mono ?_; rintro e w2 ⟨rfl, hw2⟩; obtain ⟨hcw2, hfw2, hlw2, hmw2, hnw2⟩ := bcell3 hw2; have hzw2 := hw2.size; (try simp only [World.size_alloc, World.size_setCell, World.size_drew, size_drewN] at hzw2))
  go_wp2_with fail; (refine (plate_any _).mono ?_; rintro e w3 ⟨rfl, hw3⟩; obtain ⟨hcw3, hfw3, hlw3, hmw3, hnw3⟩ := bcell3 hw3; have hzw3 := hw3.size; (try simp only [World.size_alloc, World.size_setCell, World.size_drew, size_drewN] at hzw3))
  go_wp2_with fail; (refine (tpT _).mono ?_; rintro e w4 ⟨rfl, hw4⟩; obtain ⟨hcw4, hfw4, hlw4, hmw4, hnw4⟩ := bcell3 hw4; have hzw4 := hw4.size; (try simp only [World.size_alloc, World.size_setCell, World.size_drew, size_drewN] at hzw4))
  go_wp2
  go_ret
  exact ⟨rfl, by (repeat' (first | (with_reducible exact Below.refl _ _) | (with_reducible assumption) | (with_reducible refine Below.alloc ?_ ?_ _) | (with_reducible refine Below.drew ?_) | (with_reducible refine below_drewN ?_ _) | (with_reducible refine Below.setCell ?_ ?_ _) | (with_reducible refine below_step (by with_reducible assumption) ?_ ?_) | (with_reducible exact Below.size (by with_reducible assumption)) | go_size))⟩

theorem snell_math {x : Cr} {t : Int} (h : okC x) (hs : slpC x t ≤ 0) : bN (t - x.X1) x.V2 ≤ bD (t - x.X1) x.H1 x.V1 := by
  unfold slpC at hs
  unfold bN bD
  obtain ⟨-, -, h3, h4, h5, h6⟩ := h
  have k1 := sq_nonneg (x.X2 - t)
  have k2 : 1 * 1 ≤ x.H2 * x.H2 := sq_mono (by omega) (by omega)
  have k3 : 1 * 1 ≤ x.V1 * x.V1 := sq_mono (by omega) (by omega)
  have k4 := sq_nonneg (t - x.X1)
  have k5 : 1 * 1 ≤ x.H1 * x.H1 := sq_mono (by omega) (by omega)
  generalize hA : (t - x.X1) * (t - x.X1) = A at *
  generalize hB : (x.X2 - t) * (x.X2 - t) = B at *
  generalize hH : x.H2 * x.H2 = H at *
  generalize hG : x.H1 * x.H1 = G at *
  have e1 : A * x.V2 * x.V2 = A * (x.V2 * x.V2) := by rw [Int.mul_assoc]
  have e2 : (A + G) * x.V1 * x.V1 = x.V1 * x.V1 * (A + G) := by rw [Int.mul_assoc, Int.mul_comm]
  rw [e1, e2]
  generalize hQ : x.V1 * x.V1 * (A + G) = Q at *
  generalize hP : x.V2 * x.V2 = P at *
  have q0 : 0 ≤ Q := by rw [← hQ]; exact Int.mul_nonneg (by omega) (by omega)
  have f1 : A * (P * (B + H)) = A * P * (B + H) := by rw [Int.mul_assoc]
  rw [f1] at hs
  have f2 : B * Q ≤ Q * (B + H) := by
    rw [Int.mul_comm]; exact Int.mul_le_mul_of_nonneg_left (by omega) q0
  exact Int.le_of_mul_le_mul_right (a := B + H) (by omega) (by omega)
theorem snell_sq {a b f s : Int} (h : okA a b f s) (hp : bN a s ≤ bD a b f) : sqE a b f s = 8 ∨ (sqE a b f s = 0 ∧ inB (sqN a b f s) 0 (sqD a b f s) = true) := by
  obtain ⟨-, -, -, h4, -, h6⟩ := b_bd h
  by_cases hc : sN a b f s ≤ 1000000000 ∧ sD a b f s ≤ 1000000000
  · right
    unfold sqE sqN sqD
    rw [if_pos hc, if_pos hc, if_pos hc]
    refine ⟨rfl, inB_iff.2 ?_⟩
    have hg := (gcdR_pos (a := bN a s) (b := bD a b f) (by omega) (by omega)).1
    unfold sN sD
    exact ⟨Int.ediv_nonneg (by omega) (by omega), Int.ediv_le_ediv (by omega) hp⟩
  · left
    unfold sqE
    rw [if_neg hc]

set_option maxRecDepth 100000 in
set_option maxHeartbeats 1000000 in
theorem snell_err (x : Cr) (w : World) (h : ¬ cE x = 0) :
    Calls Try.prog 18 #[.agg #[.int .i64 x.X1, .int .i64 x.H1, .int .i64 x.V1, .int .i64 x.X2, .int .i64 x.H2, .int .i64 x.V2]] w fun e w' => e = .returned (.bool true) ∧ Below w.heap.size w w' := by
  have H1 := Lib.hid (fun W => crossing_err x W h)
  generalize cE x = g at *
  go_enter Try.func18, Try.ntmps18
  go_wp2_with fail; (refine (rayed_any _).mono ?_; rintro e w1 ⟨rfl, hw1⟩; obtain ⟨hcw1, hfw1, hlw1, hmw1, hnw1⟩ := bcell3 hw1; have hzw1 := hw1.size; (try simp only [World.size_alloc, World.size_setCell, World.size_drew, size_drewN] at hzw1))
  have ca1_0 : w1.cell? ⟨w.heap.size, 0, none⟩ = some (.int .i64 (x.X1)) := (hcw1 (w.heap.size) (0) (by first | omega | (simp only [World.size_alloc, World.size_drew, World.size_setCell, size_drewN]; omega))).trans (by simp [go_sem, *]); have ca1_1 : w1.cell? ⟨w.heap.size, 1, none⟩ = some (.int .i64 (x.H1)) := (hcw1 (w.heap.size) (1) (by first | omega | (simp only [World.size_alloc, World.size_drew, World.size_setCell, size_drewN]; omega))).trans (by simp [go_sem, *]); have ca1_2 : w1.cell? ⟨w.heap.size, 2, none⟩ = some (.int .i64 (x.V1)) := (hcw1 (w.heap.size) (2) (by first | omega | (simp only [World.size_alloc, World.size_drew, World.size_setCell, size_drewN]; omega))).trans (by simp [go_sem, *]); have ca1_3 : w1.cell? ⟨w.heap.size, 3, none⟩ = some (.int .i64 (x.X2)) := (hcw1 (w.heap.size) (3) (by first | omega | (simp only [World.size_alloc, World.size_drew, World.size_setCell, size_drewN]; omega))).trans (by simp [go_sem, *]); have ca1_4 : w1.cell? ⟨w.heap.size, 4, none⟩ = some (.int .i64 (x.H2)) := (hcw1 (w.heap.size) (4) (by first | omega | (simp only [World.size_alloc, World.size_drew, World.size_setCell, size_drewN]; omega))).trans (by simp [go_sem, *]); have ca1_5 : w1.cell? ⟨w.heap.size, 5, none⟩ = some (.int .i64 (x.V2)) := (hcw1 (w.heap.size) (5) (by first | omega | (simp only [World.size_alloc, World.size_drew, World.size_setCell, size_drewN]; omega))).trans (by simp [go_sem, *]); have oa1 : w.heap.size < w1.heap.size := (by omega)
  go_wp2_with fail; (refine (H1.out _).mono ?_; rintro e w2 ⟨rfl, hw2⟩; obtain ⟨hcw2, hfw2, hlw2, hmw2, hnw2⟩ := bcell3 hw2; have hzw2 := hw2.size; (try simp only [World.size_alloc, World.size_setCell, World.size_drew, size_drewN] at hzw2))
  have ca2_0 : w2.cell? ⟨w.heap.size, 0, none⟩ = some (.int .i64 (x.X1)) := (hcw2 (w.heap.size) (0) (by first | omega | (simp only [World.size_alloc, World.size_drew, World.size_setCell, size_drewN]; omega))).trans (by simp [go_sem, *]); have ca2_1 : w2.cell? ⟨w.heap.size, 1, none⟩ = some (.int .i64 (x.H1)) := (hcw2 (w.heap.size) (1) (by first | omega | (simp only [World.size_alloc, World.size_drew, World.size_setCell, size_drewN]; omega))).trans (by simp [go_sem, *]); have ca2_2 : w2.cell? ⟨w.heap.size, 2, none⟩ = some (.int .i64 (x.V1)) := (hcw2 (w.heap.size) (2) (by first | omega | (simp only [World.size_alloc, World.size_drew, World.size_setCell, size_drewN]; omega))).trans (by simp [go_sem, *]); have ca2_3 : w2.cell? ⟨w.heap.size, 3, none⟩ = some (.int .i64 (x.X2)) := (hcw2 (w.heap.size) (3) (by first | omega | (simp only [World.size_alloc, World.size_drew, World.size_setCell, size_drewN]; omega))).trans (by simp [go_sem, *]); have ca2_4 : w2.cell? ⟨w.heap.size, 4, none⟩ = some (.int .i64 (x.H2)) := (hcw2 (w.heap.size) (4) (by first | omega | (simp only [World.size_alloc, World.size_drew, World.size_setCell, size_drewN]; omega))).trans (by simp [go_sem, *]); have ca2_5 : w2.cell? ⟨w.heap.size, 5, none⟩ = some (.int .i64 (x.V2)) := (hcw2 (w.heap.size) (5) (by first | omega | (simp only [World.size_alloc, World.size_drew, World.size_setCell, size_drewN]; omega))).trans (by simp [go_sem, *]); have oa2 : w.heap.size < w2.heap.size := (by omega)
  go_wp2
  go_ret
  exact ⟨rfl, by (repeat' (first | (with_reducible exact Below.refl _ _) | (with_reducible assumption) | (with_reducible refine Below.alloc ?_ ?_ _) | (with_reducible refine Below.drew ?_) | (with_reducible refine below_drewN ?_ _) | (with_reducible refine Below.setCell ?_ ?_ _) | (with_reducible refine below_step (by with_reducible assumption) ?_ ?_) | (with_reducible exact Below.size (by with_reducible assumption)) | go_size))⟩

set_option maxRecDepth 100000 in
set_option maxHeartbeats 2000000 in
/-- past the crossing: the direction is not one that is asked for -/
theorem snell_out (x : Cr) (p t : Int) (w : World) (H1 : Hid (∀ W, Calls Try.prog 35 #[.agg #[.int .i64 x.X1, .int .i64 x.H1, .int .i64 x.V1, .int .i64 x.X2, .int .i64 x.H2, .int .i64 x.V2]] W fun e w' => e = .returned (.tuple #[.int .i64 p, .int .i64 0]) ∧ Below W.heap.size W w'))
    (hp : -100000 ≤ p ∧ p ≤ 100000) (hx : -100000 ≤ x.X1 ∧ x.X1 ≤ 100000)
    (ht : (x.X2 < x.X1 ∧ t = p + 1) ∨ (¬ x.X2 < x.X1 ∧ t = p))
    (hc : inB (t - x.X1) (-1000) 1000 = false ∨ (inB (t - x.X1) (-1000) 1000 = true ∧ 1000 < x.H1) ∨ (inB (t - x.X1) (-1000) 1000 = true ∧ ¬ 1000 < x.H1 ∧ max x.X1 x.X2 < t)) :
    Calls Try.prog 18 #[.agg #[.int .i64 x.X1, .int .i64 x.H1, .int .i64 x.V1, .int .i64 x.X2, .int .i64 x.H2, .int .i64 x.V2]] w fun e w' => e = .returned (.bool true) ∧ Below w.heap.size w w' := by
  rcases ht with ⟨h1, rfl⟩ | ⟨h1, rfl⟩
  all_goals
    rcases hc with hi | ⟨hi, h2⟩ | ⟨hi, h2, h3⟩
    all_goals
      have HI := Lib.hid hi
      clear hi
      go_enter Try.func18, Try.ntmps18
      go_wp2_with fail; (refine (rayed_any _).mono ?_; rintro e w1 ⟨rfl, hw1⟩; obtain ⟨hcw1, hfw1, hlw1, hmw1, hnw1⟩ := bcell3 hw1; have hzw1 := hw1.size; (try simp only [World.size_alloc, World.size_setCell, World.size_drew, size_drewN] at hzw1))
      have ca1_0 : w1.cell? ⟨w.heap.size, 0, none⟩ = some (.int .i64 (x.X1)) := (hcw1 (w.heap.size) (0) (by first | omega | (simp only [World.size_alloc, World.size_drew, World.size_setCell, size_drewN]; omega))).trans (by simp [go_sem, *]); have ca1_1 : w1.cell? ⟨w.heap.size, 1, none⟩ = some (.int .i64 (x.H1)) := (hcw1 (w.heap.size) (1) (by first | omega | (simp only [World.size_alloc, World.size_drew, World.size_setCell, size_drewN]; omega))).trans (by simp [go_sem, *]); have ca1_2 : w1.cell? ⟨w.heap.size, 2, none⟩ = some (.int .i64 (x.V1)) := (hcw1 (w.heap.size) (2) (by first | omega | (simp only [World.size_alloc, World.size_drew, World.size_setCell, size_drewN]; omega))).trans (by simp [go_sem, *]); have ca1_3 : w1.cell? ⟨w.heap.size, 3, none⟩ = some (.int .i64 (x.X2)) := (hcw1 (w.heap.size) (3) (by first | omega | (simp only [World.size_alloc, World.size_drew, World.size_setCell, size_drewN]; omega))).trans (by simp [go_sem, *]); have ca1_4 : w1.cell? ⟨w.heap.size, 4, none⟩ = some (.int .i64 (x.H2)) := (hcw1 (w.heap.size) (4) (by first | omega | (simp only [World.size_alloc, World.size_drew, World.size_setCell, size_drewN]; omega))).trans (by simp [go_sem, *]); have ca1_5 : w1.cell? ⟨w.heap.size, 5, none⟩ = some (.int .i64 (x.V2)) := (hcw1 (w.heap.size) (5) (by first | omega | (simp only [World.size_alloc, World.size_drew, World.size_setCell, size_drewN]; omega))).trans (by simp [go_sem, *]); have oa1 : w.heap.size < w1.heap.size := (by omega)
      go_wp2_with fail; (refine (H1.out _).mono ?_; rintro e w2 ⟨rfl, hw2⟩; obtain ⟨hcw2, hfw2, hlw2, hmw2, hnw2⟩ := bcell3 hw2; have hzw2 := hw2.size; (try simp only [World.size_alloc, World.size_setCell, World.size_drew, size_drewN] at hzw2))
      have ca2_0 : w2.cell? ⟨w.heap.size, 0, none⟩ = some (.int .i64 (x.X1)) := (hcw2 (w.heap.size) (0) (by first | omega | (simp only [World.size_alloc, World.size_drew, World.size_setCell, size_drewN]; omega))).trans (by simp [go_sem, *]); have ca2_1 : w2.cell? ⟨w.heap.size, 1, none⟩ = some (.int .i64 (x.H1)) := (hcw2 (w.heap.size) (1) (by first | omega | (simp only [World.size_alloc, World.size_drew, World.size_setCell, size_drewN]; omega))).trans (by simp [go_sem, *]); have ca2_2 : w2.cell? ⟨w.heap.size, 2, none⟩ = some (.int .i64 (x.V1)) := (hcw2 (w.heap.size) (2) (by first | omega | (simp only [World.size_alloc, World.size_drew, World.size_setCell, size_drewN]; omega))).trans (by simp [go_sem, *]); have ca2_3 : w2.cell? ⟨w.heap.size, 3, none⟩ = some (.int .i64 (x.X2)) := (hcw2 (w.heap.size) (3) (by first | omega | (simp only [World.size_alloc, World.size_drew, World.size_setCell, size_drewN]; omega))).trans (by simp [go_sem, *]); have ca2_4 : w2.cell? ⟨w.heap.size, 4, none⟩ = some (.int .i64 (x.H2)) := (hcw2 (w.heap.size) (4) (by first | omega | (simp only [World.size_alloc, World.size_drew, World.size_setCell, size_drewN]; omega))).trans (by simp [go_sem, *]); have ca2_5 : w2.cell? ⟨w.heap.size, 5, none⟩ = some (.int .i64 (x.V2)) := (hcw2 (w.heap.size) (5) (by first | omega | (simp only [World.size_alloc, World.size_drew, World.size_setCell, size_drewN]; omega))).trans (by simp [go_sem, *]); have oa2 : w.heap.size < w2.heap.size := (by omega)
      go_wp2_with fail
      refine (bwithin_any _ _ _ _).mono ?_
      rw [HI.out]
      rintro e w' ⟨rfl, rfl⟩
      go_wp2
      go_ret
      exact ⟨rfl, by (repeat' (first | (with_reducible exact Below.refl _ _) | (with_reducible assumption) | (with_reducible refine Below.alloc ?_ ?_ _) | (with_reducible refine Below.drew ?_) | (with_reducible refine below_drewN ?_ _) | (with_reducible refine Below.setCell ?_ ?_ _) | (with_reducible refine below_step (by with_reducible assumption) ?_ ?_) | (with_reducible exact Below.size (by with_reducible assumption)) | go_size))⟩

set_option maxRecDepth 100000 in
set_option maxHeartbeats 2000000 in
theorem snell_in (x : Cr) (p t n d e0 : Int) (w : World) (H1 : Hid (∀ W, Calls Try.prog 35 #[.agg #[.int .i64 x.X1, .int .i64 x.H1, .int .i64 x.V1, .int .i64 x.X2, .int .i64 x.H2, .int .i64 x.V2]] W fun e w' => e = .returned (.tuple #[.int .i64 p, .int .i64 0]) ∧ Below W.heap.size W w'))
    (hp : -100000 ≤ p ∧ p ≤ 100000) (hx : -100000 ≤ x.X1 ∧ x.X1 ≤ 100000)
    (ht : (x.X2 < x.X1 ∧ t = p + 1) ∨ (¬ x.X2 < x.X1 ∧ t = p))
    (hi : inB (t - x.X1) (-1000) 1000 = true) (h2 : ¬ 1000 < x.H1) (h3 : ¬ max x.X1 x.X2 < t)
    (H4 : Hid (∀ W, Calls Try.prog 65 #[.agg #[.int .i64 (t - x.X1), .int .i64 x.H1], .int .i64 x.V1, .int .i64 x.V2] W fun e w' => e = .returned (.tuple #[.bool true, .int .i64 0]) ∧ Below W.heap.size W w'))
    (H5 : Hid (∀ W, Calls Try.prog 66 #[.agg #[.int .i64 (t - x.X1), .int .i64 x.H1], .int .i64 x.V1, .int .i64 x.V2] W fun e w' => e = .returned (.tuple #[.agg #[.int .i64 n, .int .i64 d], .int .i64 e0]) ∧ Below W.heap.size W w'))
    (he : e0 = 8 ∨ (e0 = 0 ∧ inB n 0 d = true)) :
    Calls Try.prog 18 #[.agg #[.int .i64 x.X1, .int .i64 x.H1, .int .i64 x.V1, .int .i64 x.X2, .int .i64 x.H2, .int .i64 x.V2]] w fun e w' => e = .returned (.bool true) ∧ Below w.heap.size w w' := by
  have HI := Lib.hid hi
  clear hi
  rcases ht with ⟨h1, rfl⟩ | ⟨h1, rfl⟩
  all_goals
    rcases he with rfl | ⟨rfl, hk⟩
    all_goals
      try have HK := Lib.hid hk
      try clear hk
      go_enter Try.func18, Try.ntmps18
      go_wp2_with fail; (refine (rayed_any _).mono ?_; rintro e w1 ⟨rfl, hw1⟩; obtain ⟨hcw1, hfw1, hlw1, hmw1, hnw1⟩ := bcell3 hw1; have hzw1 := hw1.size; (try simp only [World.size_alloc, World.size_setCell, World.size_drew, size_drewN] at hzw1))
      have ca1_0 : w1.cell? ⟨w.heap.size, 0, none⟩ = some (.int .i64 (x.X1)) := (hcw1 (w.heap.size) (0) (by first | omega | (simp only [World.size_alloc, World.size_drew, World.size_setCell, size_drewN]; omega))).trans (by simp [go_sem, *]); have ca1_1 : w1.cell? ⟨w.heap.size, 1, none⟩ = some (.int .i64 (x.H1)) := (hcw1 (w.heap.size) (1) (by first | omega | (simp only [World.size_alloc, World.size_drew, World.size_setCell, size_drewN]; omega))).trans (by simp [go_sem, *]); have ca1_2 : w1.cell? ⟨w.heap.size, 2, none⟩ = some (.int .i64 (x.V1)) := (hcw1 (w.heap.size) (2) (by first | omega | (simp only [World.size_alloc, World.size_drew, World.size_setCell, size_drewN]; omega))).trans (by simp [go_sem, *]); have ca1_3 : w1.cell? ⟨w.heap.size, 3, none⟩ = some (.int .i64 (x.X2)) := (hcw1 (w.heap.size) (3) (by first | omega | (simp only [World.size_alloc, World.size_drew, World.size_setCell, size_drewN]; omega))).trans (by simp [go_sem, *]); have ca1_4 : w1.cell? ⟨w.heap.size, 4, none⟩ = some (.int .i64 (x.H2)) := (hcw1 (w.heap.size) (4) (by first | omega | (simp only [World.size_alloc, World.size_drew, World.size_setCell, size_drewN]; omega))).trans (by simp [go_sem, *]); have ca1_5 : w1.cell? ⟨w.heap.size, 5, none⟩ = some (.int .i64 (x.V2)) := (hcw1 (w.heap.size) (5) (by first | omega | (simp only [World.size_alloc, World.size_drew, World.size_setCell, size_drewN]; omega))).trans (by simp [go_sem, *]); have oa1 : w.heap.size < w1.heap.size := (by omega)
      go_wp2_with fail; (refine (H1.out _).mono ?_; rintro e w2 ⟨rfl, hw2⟩; obtain ⟨hcw2, hfw2, hlw2, hmw2, hnw2⟩ := bcell3 hw2; have hzw2 := hw2.size; (try simp only [World.size_alloc, World.size_setCell, World.size_drew, size_drewN] at hzw2))
      have ca2_0 : w2.cell? ⟨w.heap.size, 0, none⟩ = some (.int .i64 (x.X1)) := (hcw2 (w.heap.size) (0) (by first | omega | (simp only [World.size_alloc, World.size_drew, World.size_setCell, size_drewN]; omega))).trans (by simp [go_sem, *]); have ca2_1 : w2.cell? ⟨w.heap.size, 1, none⟩ = some (.int .i64 (x.H1)) := (hcw2 (w.heap.size) (1) (by first | omega | (simp only [World.size_alloc, World.size_drew, World.size_setCell, size_drewN]; omega))).trans (by simp [go_sem, *]); have ca2_2 : w2.cell? ⟨w.heap.size, 2, none⟩ = some (.int .i64 (x.V1)) := (hcw2 (w.heap.size) (2) (by first | omega | (simp only [World.size_alloc, World.size_drew, World.size_setCell, size_drewN]; omega))).trans (by simp [go_sem, *]); have ca2_3 : w2.cell? ⟨w.heap.size, 3, none⟩ = some (.int .i64 (x.X2)) := (hcw2 (w.heap.size) (3) (by first | omega | (simp only [World.size_alloc, World.size_drew, World.size_setCell, size_drewN]; omega))).trans (by simp [go_sem, *]); have ca2_4 : w2.cell? ⟨w.heap.size, 4, none⟩ = some (.int .i64 (x.H2)) := (hcw2 (w.heap.size) (4) (by first | omega | (simp only [World.size_alloc, World.size_drew, World.size_setCell, size_drewN]; omega))).trans (by simp [go_sem, *]); have ca2_5 : w2.cell? ⟨w.heap.size, 5, none⟩ = some (.int .i64 (x.V2)) := (hcw2 (w.heap.size) (5) (by first | omega | (simp only [World.size_alloc, World.size_drew, World.size_setCell, size_drewN]; omega))).trans (by simp [go_sem, *]); have oa2 : w.heap.size < w2.heap.size := (by omega)
      go_wp2_with fail
      refine (bwithin_any _ _ _ _).mono ?_
      rw [HI.out]
      rintro e w' ⟨rfl, rfl⟩
      go_wp2_with fail; (refine (H4.out _).mono ?_; rintro e w3 ⟨rfl, hw3⟩; obtain ⟨hcw3, hfw3, hlw3, hmw3, hnw3⟩ := bcell3 hw3; have hzw3 := hw3.size; (try simp only [World.size_alloc, World.size_setCell, World.size_drew, size_drewN] at hzw3))
      have ca3_0 : w3.cell? ⟨w.heap.size, 0, none⟩ = some (.int .i64 (x.X1)) := (hcw3 (w.heap.size) (0) (by first | omega | (simp only [World.size_alloc, World.size_drew, World.size_setCell, size_drewN]; omega))).trans (by simp [go_sem, *]); have ca3_1 : w3.cell? ⟨w.heap.size, 1, none⟩ = some (.int .i64 (x.H1)) := (hcw3 (w.heap.size) (1) (by first | omega | (simp only [World.size_alloc, World.size_drew, World.size_setCell, size_drewN]; omega))).trans (by simp [go_sem, *]); have ca3_2 : w3.cell? ⟨w.heap.size, 2, none⟩ = some (.int .i64 (x.V1)) := (hcw3 (w.heap.size) (2) (by first | omega | (simp only [World.size_alloc, World.size_drew, World.size_setCell, size_drewN]; omega))).trans (by simp [go_sem, *]); have ca3_3 : w3.cell? ⟨w.heap.size, 3, none⟩ = some (.int .i64 (x.X2)) := (hcw3 (w.heap.size) (3) (by first | omega | (simp only [World.size_alloc, World.size_drew, World.size_setCell, size_drewN]; omega))).trans (by simp [go_sem, *]); have ca3_4 : w3.cell? ⟨w.heap.size, 4, none⟩ = some (.int .i64 (x.H2)) := (hcw3 (w.heap.size) (4) (by first | omega | (simp only [World.size_alloc, World.size_drew, World.size_setCell, size_drewN]; omega))).trans (by simp [go_sem, *]); have ca3_5 : w3.cell? ⟨w.heap.size, 5, none⟩ = some (.int .i64 (x.V2)) := (hcw3 (w.heap.size) (5) (by first | omega | (simp only [World.size_alloc, World.size_drew, World.size_setCell, size_drewN]; omega))).trans (by simp [go_sem, *]); have oa3 : w.heap.size < w3.heap.size := (by omega)
      go_wp2_with fail; (refine (H5.out _).mono ?_; rintro e w4 ⟨rfl, hw4⟩; obtain ⟨hcw4, hfw4, hlw4, hmw4, hnw4⟩ := bcell3 hw4; have hzw4 := hw4.size; (try simp only [World.size_alloc, World.size_setCell, World.size_drew, size_drewN] at hzw4))
      have ca4_0 : w4.cell? ⟨w.heap.size, 0, none⟩ = some (.int .i64 (x.X1)) := (hcw4 (w.heap.size) (0) (by first | omega | (simp only [World.size_alloc, World.size_drew, World.size_setCell, size_drewN]; omega))).trans (by simp [go_sem, *]); have ca4_1 : w4.cell? ⟨w.heap.size, 1, none⟩ = some (.int .i64 (x.H1)) := (hcw4 (w.heap.size) (1) (by first | omega | (simp only [World.size_alloc, World.size_drew, World.size_setCell, size_drewN]; omega))).trans (by simp [go_sem, *]); have ca4_2 : w4.cell? ⟨w.heap.size, 2, none⟩ = some (.int .i64 (x.V1)) := (hcw4 (w.heap.size) (2) (by first | omega | (simp only [World.size_alloc, World.size_drew, World.size_setCell, size_drewN]; omega))).trans (by simp [go_sem, *]); have ca4_3 : w4.cell? ⟨w.heap.size, 3, none⟩ = some (.int .i64 (x.X2)) := (hcw4 (w.heap.size) (3) (by first | omega | (simp only [World.size_alloc, World.size_drew, World.size_setCell, size_drewN]; omega))).trans (by simp [go_sem, *]); have ca4_4 : w4.cell? ⟨w.heap.size, 4, none⟩ = some (.int .i64 (x.H2)) := (hcw4 (w.heap.size) (4) (by first | omega | (simp only [World.size_alloc, World.size_drew, World.size_setCell, size_drewN]; omega))).trans (by simp [go_sem, *]); have ca4_5 : w4.cell? ⟨w.heap.size, 5, none⟩ = some (.int .i64 (x.V2)) := (hcw4 (w.heap.size) (5) (by first | omega | (simp only [World.size_alloc, World.size_drew, World.size_setCell, size_drewN]; omega))).trans (by simp [go_sem, *]); have oa4 : w.heap.size < w4.heap.size := (by omega)
      first
        | (go_wp2_with fail
           refine (bwithin_any _ _ _ _).mono ?_
           rw [HK.out]
           rintro e w' ⟨rfl, rfl⟩
           go_wp2
           go_ret
           exact ⟨rfl, by (repeat' (first | (with_reducible exact Below.refl _ _) | (with_reducible assumption) | (with_reducible refine Below.alloc ?_ ?_ _) | (with_reducible refine Below.drew ?_) | (with_reducible refine below_drewN ?_ _) | (with_reducible refine Below.setCell ?_ ?_ _) | (with_reducible refine below_step (by with_reducible assumption) ?_ ?_) | (with_reducible exact Below.size (by with_reducible assumption)) | go_size))⟩)
        | (go_wp2
           go_ret
           exact ⟨rfl, by (repeat' (first | (with_reducible exact Below.refl _ _) | (with_reducible assumption) | (with_reducible refine Below.alloc ?_ ?_ _) | (with_reducible refine Below.drew ?_) | (with_reducible refine below_drewN ?_ _) | (with_reducible refine Below.setCell ?_ ?_ _) | (with_reducible refine below_step (by with_reducible assumption) ?_ ?_) | (with_reducible exact Below.size (by with_reducible assumption)) | go_size))⟩)
end Go.Proofs.Ytpphnnbijmoodaa
