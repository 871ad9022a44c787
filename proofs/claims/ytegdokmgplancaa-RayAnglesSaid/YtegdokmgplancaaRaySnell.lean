/-
  SNELL'S LAW: the walk of RaySnell.
-/
import Derived.Test.YtegdokmgplancaaSnell
set_option linter.unusedVariables false
set_option linter.unusedSimpArgs false
namespace Go.Proofs.Ytegdokmgplancaa
open Go.RowKit

set_option maxRecDepth 100000 in
set_option maxHeartbeats 1000000 in
theorem raySnell_err (a b f s : Int) (w : World) (h : ¬ aE a b f s = 0) :
    Calls Try.prog 15 #[.agg #[.int .i64 a, .int .i64 b], .int .i64 f, .int .i64 s] w fun e w' => e = .returned (.bool true) ∧ Below w.heap.size w w' := by
  have H1 := Lib.hid (fun W => passes_err a b f s W h)
  generalize aE a b f s = g at *
  go_enter Try.func15, Try.ntmps15
  go_wp2_with fail; (refine (awake_any _).mono ?_; rintro e w1 ⟨rfl, hw1⟩; obtain ⟨hcw1, hfw1, hlw1, hmw1, hnw1⟩ := bcell3 hw1; have hzw1 := hw1.size; (try simp only [World.size_alloc, World.size_setCell, World.size_drew, size_drewN] at hzw1))
  have ca1_0 : w1.cell? ⟨w.heap.size, 0, none⟩ = some (.int .i64 (a)) := (hcw1 (w.heap.size) 0 (by first | omega | (simp only [World.size_alloc, World.size_drew, World.size_setCell, size_drewN]; omega))).trans (by simp [go_sem, *]); have ca1_1 : w1.cell? ⟨w.heap.size, 1, none⟩ = some (.int .i64 (b)) := (hcw1 (w.heap.size) 1 (by first | omega | (simp only [World.size_alloc, World.size_drew, World.size_setCell, size_drewN]; omega))).trans (by simp [go_sem, *]); have oa1 : w.heap.size < w1.heap.size := (by omega)
  go_wp2_with fail; (refine (H1.out _).mono ?_; rintro e w2 ⟨rfl, hw2⟩; obtain ⟨hcw2, hfw2, hlw2, hmw2, hnw2⟩ := bcell3 hw2; have hzw2 := hw2.size; (try simp only [World.size_alloc, World.size_setCell, World.size_drew, size_drewN] at hzw2))
  have ca2_0 : w2.cell? ⟨w.heap.size, 0, none⟩ = some (.int .i64 (a)) := (hcw2 (w.heap.size) 0 (by first | omega | (simp only [World.size_alloc, World.size_drew, World.size_setCell, size_drewN]; omega))).trans (by simp [go_sem, *]); have ca2_1 : w2.cell? ⟨w.heap.size, 1, none⟩ = some (.int .i64 (b)) := (hcw2 (w.heap.size) 1 (by first | omega | (simp only [World.size_alloc, World.size_drew, World.size_setCell, size_drewN]; omega))).trans (by simp [go_sem, *]); have oa2 : w.heap.size < w2.heap.size := (by omega)
  go_wp2
  go_ret
  exact ⟨rfl, by (repeat' (first | (with_reducible exact Below.refl _ _) | (with_reducible assumption) | (with_reducible refine Below.alloc ?_ ?_ _) | (with_reducible refine Below.drew ?_) | (with_reducible refine below_drewN ?_ _) | (with_reducible refine Below.setCell ?_ ?_ _) | (with_reducible refine below_step (by with_reducible assumption) ?_ ?_) | (with_reducible exact Below.size (by with_reducible assumption)) | go_size))⟩

set_option maxRecDepth 100000 in
set_option maxHeartbeats 1000000 in
theorem raySnell_w1 (a b f s cn cd yn yd c1 : Int) (w : World)
    (H1 : (Hid (∀ W, Calls Try.prog 65 #[.agg #[.int .i64 a, .int .i64 b], .int .i64 f, .int .i64 s] W fun e w' => e = .returned (.tuple #[.bool false, .int .i64 0]) ∧ Below W.heap.size W w')))
    (H2 : (Hid (∀ W, Calls Try.prog 64 #[.int .i64 f, .int .i64 s] W fun e w' => e = .returned (.tuple #[.agg #[.int .i64 cn, .int .i64 cd], .int .i64 0]) ∧ Below W.heap.size W w')))
    (H3 : (Hid (∀ W, Calls Try.prog 66 #[.agg #[.int .i64 a, .int .i64 b], .int .i64 f, .int .i64 s] W fun e w' => e = .returned (.tuple #[.agg #[.int .i64 yn, .int .i64 yd], .int .i64 12]) ∧ Below W.heap.size W w')))
    (G6 : (Hid (∀ W, Calls Try.prog 71 #[.int .i64 (a * a), .int .i64 (a * a + b * b), .int .i64 cn, .int .i64 cd] W fun e w' => e = .returned (.int .i64 c1) ∧ W = w')))
    (hb1 : 0 ≤ a * a ∧ a * a ≤ 1000000) (hb2 : 1 ≤ b * b ∧ b * b ≤ 1000000) (hc : 0 < c1) :
    Calls Try.prog 15 #[.agg #[.int .i64 a, .int .i64 b], .int .i64 f, .int .i64 s] w fun e w' => e = .returned (.bool true) ∧ Below w.heap.size w w' := by
  go_enter Try.func15, Try.ntmps15
  go_wp2_with fail; (refine (awake_any _).mono ?_; rintro e w1 ⟨rfl, hw1⟩; obtain ⟨hcw1, hfw1, hlw1, hmw1, hnw1⟩ := bcell3 hw1; have hzw1 := hw1.size; (try simp only [World.size_alloc, World.size_setCell, World.size_drew, size_drewN] at hzw1))
  have ca1_0 : w1.cell? ⟨w.heap.size, 0, none⟩ = some (.int .i64 (a)) := (hcw1 (w.heap.size) 0 (by first | omega | (simp only [World.size_alloc, World.size_drew, World.size_setCell, size_drewN]; omega))).trans (by simp [go_sem, *]); have ca1_1 : w1.cell? ⟨w.heap.size, 1, none⟩ = some (.int .i64 (b)) := (hcw1 (w.heap.size) 1 (by first | omega | (simp only [World.size_alloc, World.size_drew, World.size_setCell, size_drewN]; omega))).trans (by simp [go_sem, *]); have oa1 : w.heap.size < w1.heap.size := (by omega)
  go_wp2_with fail; (refine (H1.out _).mono ?_; rintro e w2 ⟨rfl, hw2⟩; obtain ⟨hcw2, hfw2, hlw2, hmw2, hnw2⟩ := bcell3 hw2; have hzw2 := hw2.size; (try simp only [World.size_alloc, World.size_setCell, World.size_drew, size_drewN] at hzw2))
  have ca2_0 : w2.cell? ⟨w.heap.size, 0, none⟩ = some (.int .i64 (a)) := (hcw2 (w.heap.size) 0 (by first | omega | (simp only [World.size_alloc, World.size_drew, World.size_setCell, size_drewN]; omega))).trans (by simp [go_sem, *]); have ca2_1 : w2.cell? ⟨w.heap.size, 1, none⟩ = some (.int .i64 (b)) := (hcw2 (w.heap.size) 1 (by first | omega | (simp only [World.size_alloc, World.size_drew, World.size_setCell, size_drewN]; omega))).trans (by simp [go_sem, *]); have oa2 : w.heap.size < w2.heap.size := (by omega)
  go_wp2_with fail; (refine (H2.out _).mono ?_; rintro e w3 ⟨rfl, hw3⟩; obtain ⟨hcw3, hfw3, hlw3, hmw3, hnw3⟩ := bcell3 hw3; have hzw3 := hw3.size; (try simp only [World.size_alloc, World.size_setCell, World.size_drew, size_drewN] at hzw3))
  have ca3_0 : w3.cell? ⟨w.heap.size, 0, none⟩ = some (.int .i64 (a)) := (hcw3 (w.heap.size) 0 (by first | omega | (simp only [World.size_alloc, World.size_drew, World.size_setCell, size_drewN]; omega))).trans (by simp [go_sem, *]); have ca3_1 : w3.cell? ⟨w.heap.size, 1, none⟩ = some (.int .i64 (b)) := (hcw3 (w.heap.size) 1 (by first | omega | (simp only [World.size_alloc, World.size_drew, World.size_setCell, size_drewN]; omega))).trans (by simp [go_sem, *]); have oa3 : w.heap.size < w3.heap.size := (by omega)
  go_wp2_with fail; (refine (H3.out _).mono ?_; rintro e w4 ⟨rfl, hw4⟩; obtain ⟨hcw4, hfw4, hlw4, hmw4, hnw4⟩ := bcell3 hw4; have hzw4 := hw4.size; (try simp only [World.size_alloc, World.size_setCell, World.size_drew, size_drewN] at hzw4))
  have ca4_0 : w4.cell? ⟨w.heap.size, 0, none⟩ = some (.int .i64 (a)) := (hcw4 (w.heap.size) 0 (by first | omega | (simp only [World.size_alloc, World.size_drew, World.size_setCell, size_drewN]; omega))).trans (by simp [go_sem, *]); have ca4_1 : w4.cell? ⟨w.heap.size, 1, none⟩ = some (.int .i64 (b)) := (hcw4 (w.heap.size) 1 (by first | omega | (simp only [World.size_alloc, World.size_drew, World.size_setCell, size_drewN]; omega))).trans (by simp [go_sem, *]); have oa4 : w.heap.size < w4.heap.size := (by omega)
  go_wp2_with fail
  refine (G6.out _).mono ?_
  rintro e w' ⟨rfl, rfl⟩
  go_wp2
  go_ret
  exact ⟨rfl, by (repeat' (first | (with_reducible exact Below.refl _ _) | (with_reducible assumption) | (with_reducible refine Below.alloc ?_ ?_ _) | (with_reducible refine Below.drew ?_) | (with_reducible refine below_drewN ?_ _) | (with_reducible refine Below.setCell ?_ ?_ _) | (with_reducible refine below_step (by with_reducible assumption) ?_ ?_) | (with_reducible exact Below.size (by with_reducible assumption)) | go_size))⟩
set_option maxRecDepth 100000 in
set_option maxHeartbeats 1000000 in
theorem raySnell_w2 (a b f s cn cd yn yd c1 : Int) (w : World)
    (H1 : (Hid (∀ W, Calls Try.prog 65 #[.agg #[.int .i64 a, .int .i64 b], .int .i64 f, .int .i64 s] W fun e w' => e = .returned (.tuple #[.bool true, .int .i64 0]) ∧ Below W.heap.size W w')))
    (H2 : (Hid (∀ W, Calls Try.prog 64 #[.int .i64 f, .int .i64 s] W fun e w' => e = .returned (.tuple #[.agg #[.int .i64 cn, .int .i64 cd], .int .i64 0]) ∧ Below W.heap.size W w')))
    (H3 : (Hid (∀ W, Calls Try.prog 66 #[.agg #[.int .i64 a, .int .i64 b], .int .i64 f, .int .i64 s] W fun e w' => e = .returned (.tuple #[.agg #[.int .i64 yn, .int .i64 yd], .int .i64 8]) ∧ Below W.heap.size W w')))
    (G6 : (Hid (∀ W, Calls Try.prog 71 #[.int .i64 (a * a), .int .i64 (a * a + b * b), .int .i64 cn, .int .i64 cd] W fun e w' => e = .returned (.int .i64 c1) ∧ W = w')))
    (hb1 : 0 ≤ a * a ∧ a * a ≤ 1000000) (hb2 : 1 ≤ b * b ∧ b * b ≤ 1000000) (hc : c1 ≤ 0) :
    Calls Try.prog 15 #[.agg #[.int .i64 a, .int .i64 b], .int .i64 f, .int .i64 s] w fun e w' => e = .returned (.bool true) ∧ Below w.heap.size w w' := by
  go_enter Try.func15, Try.ntmps15
  go_wp2_with fail; (refine (awake_any _).mono ?_; rintro e w1 ⟨rfl, hw1⟩; obtain ⟨hcw1, hfw1, hlw1, hmw1, hnw1⟩ := bcell3 hw1; have hzw1 := hw1.size; (try simp only [World.size_alloc, World.size_setCell, World.size_drew, size_drewN] at hzw1))
  have ca1_0 : w1.cell? ⟨w.heap.size, 0, none⟩ = some (.int .i64 (a)) := (hcw1 (w.heap.size) 0 (by first | omega | (simp only [World.size_alloc, World.size_drew, World.size_setCell, size_drewN]; omega))).trans (by simp [go_sem, *]); have ca1_1 : w1.cell? ⟨w.heap.size, 1, none⟩ = some (.int .i64 (b)) := (hcw1 (w.heap.size) 1 (by first | omega | (simp only [World.size_alloc, World.size_drew, World.size_setCell, size_drewN]; omega))).trans (by simp [go_sem, *]); have oa1 : w.heap.size < w1.heap.size := (by omega)
  go_wp2_with fail; (refine (H1.out _).mono ?_; rintro e w2 ⟨rfl, hw2⟩; obtain ⟨hcw2, hfw2, hlw2, hmw2, hnw2⟩ := bcell3 hw2; have hzw2 := hw2.size; (try simp only [World.size_alloc, World.size_setCell, World.size_drew, size_drewN] at hzw2))
  have ca2_0 : w2.cell? ⟨w.heap.size, 0, none⟩ = some (.int .i64 (a)) := (hcw2 (w.heap.size) 0 (by first | omega | (simp only [World.size_alloc, World.size_drew, World.size_setCell, size_drewN]; omega))).trans (by simp [go_sem, *]); have ca2_1 : w2.cell? ⟨w.heap.size, 1, none⟩ = some (.int .i64 (b)) := (hcw2 (w.heap.size) 1 (by first | omega | (simp only [World.size_alloc, World.size_drew, World.size_setCell, size_drewN]; omega))).trans (by simp [go_sem, *]); have oa2 : w.heap.size < w2.heap.size := (by omega)
  go_wp2_with fail; (refine (H2.out _).mono ?_; rintro e w3 ⟨rfl, hw3⟩; obtain ⟨hcw3, hfw3, hlw3, hmw3, hnw3⟩ := bcell3 hw3; have hzw3 := hw3.size; (try simp only [World.size_alloc, World.size_setCell, World.size_drew, size_drewN] at hzw3))
  have ca3_0 : w3.cell? ⟨w.heap.size, 0, none⟩ = some (.int .i64 (a)) := (hcw3 (w.heap.size) 0 (by first | omega | (simp only [World.size_alloc, World.size_drew, World.size_setCell, size_drewN]; omega))).trans (by simp [go_sem, *]); have ca3_1 : w3.cell? ⟨w.heap.size, 1, none⟩ = some (.int .i64 (b)) := (hcw3 (w.heap.size) 1 (by first | omega | (simp only [World.size_alloc, World.size_drew, World.size_setCell, size_drewN]; omega))).trans (by simp [go_sem, *]); have oa3 : w.heap.size < w3.heap.size := (by omega)
  go_wp2_with fail; (refine (H3.out _).mono ?_; rintro e w4 ⟨rfl, hw4⟩; obtain ⟨hcw4, hfw4, hlw4, hmw4, hnw4⟩ := bcell3 hw4; have hzw4 := hw4.size; (try simp only [World.size_alloc, World.size_setCell, World.size_drew, size_drewN] at hzw4))
  have ca4_0 : w4.cell? ⟨w.heap.size, 0, none⟩ = some (.int .i64 (a)) := (hcw4 (w.heap.size) 0 (by first | omega | (simp only [World.size_alloc, World.size_drew, World.size_setCell, size_drewN]; omega))).trans (by simp [go_sem, *]); have ca4_1 : w4.cell? ⟨w.heap.size, 1, none⟩ = some (.int .i64 (b)) := (hcw4 (w.heap.size) 1 (by first | omega | (simp only [World.size_alloc, World.size_drew, World.size_setCell, size_drewN]; omega))).trans (by simp [go_sem, *]); have oa4 : w.heap.size < w4.heap.size := (by omega)
  go_wp2_with fail
  refine (G6.out _).mono ?_
  rintro e w' ⟨rfl, rfl⟩
  go_wp2
  go_ret
  exact ⟨rfl, by (repeat' (first | (with_reducible exact Below.refl _ _) | (with_reducible assumption) | (with_reducible refine Below.alloc ?_ ?_ _) | (with_reducible refine Below.drew ?_) | (with_reducible refine below_drewN ?_ _) | (with_reducible refine Below.setCell ?_ ?_ _) | (with_reducible refine below_step (by with_reducible assumption) ?_ ?_) | (with_reducible exact Below.size (by with_reducible assumption)) | go_size))⟩
set_option maxRecDepth 100000 in
set_option maxHeartbeats 1000000 in
theorem raySnell_w3 (a b f s cn cd yn yd c1 : Int) (w : World)
    (H1 : (Hid (∀ W, Calls Try.prog 65 #[.agg #[.int .i64 a, .int .i64 b], .int .i64 f, .int .i64 s] W fun e w' => e = .returned (.tuple #[.bool true, .int .i64 0]) ∧ Below W.heap.size W w')))
    (H2 : (Hid (∀ W, Calls Try.prog 64 #[.int .i64 f, .int .i64 s] W fun e w' => e = .returned (.tuple #[.agg #[.int .i64 cn, .int .i64 cd], .int .i64 0]) ∧ Below W.heap.size W w')))
    (H3 : (Hid (∀ W, Calls Try.prog 66 #[.agg #[.int .i64 a, .int .i64 b], .int .i64 f, .int .i64 s] W fun e w' => e = .returned (.tuple #[.agg #[.int .i64 yn, .int .i64 yd], .int .i64 0]) ∧ Below W.heap.size W w')))
    (G6 : (Hid (∀ W, Calls Try.prog 71 #[.int .i64 (a * a), .int .i64 (a * a + b * b), .int .i64 cn, .int .i64 cd] W fun e w' => e = .returned (.int .i64 c1) ∧ W = w')))
    (G7 : (Hid (∀ W, Calls Try.prog 71 #[.int .i64 (yn * f), .int .i64 (yd * s), .int .i64 (a * a * s), .int .i64 ((a * a + b * b) * f)] W fun e w' => e = .returned (.int .i64 0) ∧ W = w')))
    (G8 : Hid (inB yn 0 yd = true)) (G9 : Hid (inB yd 1 1000000000 = true))
    (hb3 : 0 ≤ a * a * s ∧ a * a * s ≤ 10000000000) (hb4 : 1 ≤ (a * a + b * b) * f ∧ (a * a + b * b) * f ≤ 20000000000) (hy1 : 0 ≤ yn * f ∧ yn * f ≤ 10000000000000) (hy2 : 0 ≤ yd * s ∧ yd * s ≤ 10000000000000)
    (hb1 : 0 ≤ a * a ∧ a * a ≤ 1000000) (hb2 : 1 ≤ b * b ∧ b * b ≤ 1000000) (hc : c1 ≤ 0) :
    Calls Try.prog 15 #[.agg #[.int .i64 a, .int .i64 b], .int .i64 f, .int .i64 s] w fun e w' => e = .returned (.bool true) ∧ Below w.heap.size w w' := by
  go_enter Try.func15, Try.ntmps15
  go_wp2_with fail; (refine (awake_any _).mono ?_; rintro e w1 ⟨rfl, hw1⟩; obtain ⟨hcw1, hfw1, hlw1, hmw1, hnw1⟩ := bcell3 hw1; have hzw1 := hw1.size; (try simp only [World.size_alloc, World.size_setCell, World.size_drew, size_drewN] at hzw1))
  have ca1_0 : w1.cell? ⟨w.heap.size, 0, none⟩ = some (.int .i64 (a)) := (hcw1 (w.heap.size) 0 (by first | omega | (simp only [World.size_alloc, World.size_drew, World.size_setCell, size_drewN]; omega))).trans (by simp [go_sem, *]); have ca1_1 : w1.cell? ⟨w.heap.size, 1, none⟩ = some (.int .i64 (b)) := (hcw1 (w.heap.size) 1 (by first | omega | (simp only [World.size_alloc, World.size_drew, World.size_setCell, size_drewN]; omega))).trans (by simp [go_sem, *]); have oa1 : w.heap.size < w1.heap.size := (by omega)
  go_wp2_with fail; (refine (H1.out _).mono ?_; rintro e w2 ⟨rfl, hw2⟩; obtain ⟨hcw2, hfw2, hlw2, hmw2, hnw2⟩ := bcell3 hw2; have hzw2 := hw2.size; (try simp only [World.size_alloc, World.size_setCell, World.size_drew, size_drewN] at hzw2))
  have ca2_0 : w2.cell? ⟨w.heap.size, 0, none⟩ = some (.int .i64 (a)) := (hcw2 (w.heap.size) 0 (by first | omega | (simp only [World.size_alloc, World.size_drew, World.size_setCell, size_drewN]; omega))).trans (by simp [go_sem, *]); have ca2_1 : w2.cell? ⟨w.heap.size, 1, none⟩ = some (.int .i64 (b)) := (hcw2 (w.heap.size) 1 (by first | omega | (simp only [World.size_alloc, World.size_drew, World.size_setCell, size_drewN]; omega))).trans (by simp [go_sem, *]); have oa2 : w.heap.size < w2.heap.size := (by omega)
  go_wp2_with fail; (refine (H2.out _).mono ?_; rintro e w3 ⟨rfl, hw3⟩; obtain ⟨hcw3, hfw3, hlw3, hmw3, hnw3⟩ := bcell3 hw3; have hzw3 := hw3.size; (try simp only [World.size_alloc, World.size_setCell, World.size_drew, size_drewN] at hzw3))
  have ca3_0 : w3.cell? ⟨w.heap.size, 0, none⟩ = some (.int .i64 (a)) := (hcw3 (w.heap.size) 0 (by first | omega | (simp only [World.size_alloc, World.size_drew, World.size_setCell, size_drewN]; omega))).trans (by simp [go_sem, *]); have ca3_1 : w3.cell? ⟨w.heap.size, 1, none⟩ = some (.int .i64 (b)) := (hcw3 (w.heap.size) 1 (by first | omega | (simp only [World.size_alloc, World.size_drew, World.size_setCell, size_drewN]; omega))).trans (by simp [go_sem, *]); have oa3 : w.heap.size < w3.heap.size := (by omega)
  go_wp2_with fail; (refine (H3.out _).mono ?_; rintro e w4 ⟨rfl, hw4⟩; obtain ⟨hcw4, hfw4, hlw4, hmw4, hnw4⟩ := bcell3 hw4; have hzw4 := hw4.size; (try simp only [World.size_alloc, World.size_setCell, World.size_drew, size_drewN] at hzw4))
  have ca4_0 : w4.cell? ⟨w.heap.size, 0, none⟩ = some (.int .i64 (a)) := (hcw4 (w.heap.size) 0 (by first | omega | (simp only [World.size_alloc, World.size_drew, World.size_setCell, size_drewN]; omega))).trans (by simp [go_sem, *]); have ca4_1 : w4.cell? ⟨w.heap.size, 1, none⟩ = some (.int .i64 (b)) := (hcw4 (w.heap.size) 1 (by first | omega | (simp only [World.size_alloc, World.size_drew, World.size_setCell, size_drewN]; omega))).trans (by simp [go_sem, *]); have oa4 : w.heap.size < w4.heap.size := (by omega)
  go_wp2_with fail
  refine (G6.out _).mono ?_
  rintro e w' ⟨rfl, rfl⟩
  go_wp2_with fail
  refine (bwithin_any yn 0 yd _).mono ?_
  rw [G8.out]
  rintro e w' ⟨rfl, rfl⟩
  go_wp2_with fail
  refine (bwithin_any yd 1 1000000000 _).mono ?_
  rw [G9.out]
  rintro e w' ⟨rfl, rfl⟩
  go_wp2_with fail
  refine (G7.out _).mono ?_
  rintro e w' ⟨rfl, rfl⟩
  go_wp2
  go_ret
  exact ⟨rfl, by (repeat' (first | (with_reducible exact Below.refl _ _) | (with_reducible assumption) | (with_reducible refine Below.alloc ?_ ?_ _) | (with_reducible refine Below.drew ?_) | (with_reducible refine below_drewN ?_ _) | (with_reducible refine Below.setCell ?_ ?_ _) | (with_reducible refine below_step (by with_reducible assumption) ?_ ?_) | (with_reducible exact Below.size (by with_reducible assumption)) | go_size))⟩
set_option maxRecDepth 100000 in
set_option maxHeartbeats 1000000 in
theorem raySnell_w4 (a b f s cn cd yn yd c1 : Int) (w : World)
    (H1 : (Hid (∀ W, Calls Try.prog 65 #[.agg #[.int .i64 a, .int .i64 b], .int .i64 f, .int .i64 s] W fun e w' => e = .returned (.tuple #[.bool true, .int .i64 0]) ∧ Below W.heap.size W w')))
    (H2 : (Hid (∀ W, Calls Try.prog 64 #[.int .i64 f, .int .i64 s] W fun e w' => e = .returned (.tuple #[.agg #[.int .i64 cn, .int .i64 cd], .int .i64 12]) ∧ Below W.heap.size W w')))
    (H3 : (Hid (∀ W, Calls Try.prog 66 #[.agg #[.int .i64 a, .int .i64 b], .int .i64 f, .int .i64 s] W fun e w' => e = .returned (.tuple #[.agg #[.int .i64 yn, .int .i64 yd], .int .i64 8]) ∧ Below W.heap.size W w')))
    (hb1 : 0 ≤ a * a ∧ a * a ≤ 1000000) (hb2 : 1 ≤ b * b ∧ b * b ≤ 1000000) (hc : True) :
    Calls Try.prog 15 #[.agg #[.int .i64 a, .int .i64 b], .int .i64 f, .int .i64 s] w fun e w' => e = .returned (.bool true) ∧ Below w.heap.size w w' := by
  go_enter Try.func15, Try.ntmps15
  go_wp2_with fail; (refine (awake_any _).mono ?_; rintro e w1 ⟨rfl, hw1⟩; obtain ⟨hcw1, hfw1, hlw1, hmw1, hnw1⟩ := bcell3 hw1; have hzw1 := hw1.size; (try simp only [World.size_alloc, World.size_setCell, World.size_drew, size_drewN] at hzw1))
  have ca1_0 : w1.cell? ⟨w.heap.size, 0, none⟩ = some (.int .i64 (a)) := (hcw1 (w.heap.size) 0 (by first | omega | (simp only [World.size_alloc, World.size_drew, World.size_setCell, size_drewN]; omega))).trans (by simp [go_sem, *]); have ca1_1 : w1.cell? ⟨w.heap.size, 1, none⟩ = some (.int .i64 (b)) := (hcw1 (w.heap.size) 1 (by first | omega | (simp only [World.size_alloc, World.size_drew, World.size_setCell, size_drewN]; omega))).trans (by simp [go_sem, *]); have oa1 : w.heap.size < w1.heap.size := (by omega)
  go_wp2_with fail; (refine (H1.out _).mono ?_; rintro e w2 ⟨rfl, hw2⟩; obtain ⟨hcw2, hfw2, hlw2, hmw2, hnw2⟩ := bcell3 hw2; have hzw2 := hw2.size; (try simp only [World.size_alloc, World.size_setCell, World.size_drew, size_drewN] at hzw2))
  have ca2_0 : w2.cell? ⟨w.heap.size, 0, none⟩ = some (.int .i64 (a)) := (hcw2 (w.heap.size) 0 (by first | omega | (simp only [World.size_alloc, World.size_drew, World.size_setCell, size_drewN]; omega))).trans (by simp [go_sem, *]); have ca2_1 : w2.cell? ⟨w.heap.size, 1, none⟩ = some (.int .i64 (b)) := (hcw2 (w.heap.size) 1 (by first | omega | (simp only [World.size_alloc, World.size_drew, World.size_setCell, size_drewN]; omega))).trans (by simp [go_sem, *]); have oa2 : w.heap.size < w2.heap.size := (by omega)
  go_wp2_with fail; (refine (H2.out _).mono ?_; rintro e w3 ⟨rfl, hw3⟩; obtain ⟨hcw3, hfw3, hlw3, hmw3, hnw3⟩ := bcell3 hw3; have hzw3 := hw3.size; (try simp only [World.size_alloc, World.size_setCell, World.size_drew, size_drewN] at hzw3))
  have ca3_0 : w3.cell? ⟨w.heap.size, 0, none⟩ = some (.int .i64 (a)) := (hcw3 (w.heap.size) 0 (by first | omega | (simp only [World.size_alloc, World.size_drew, World.size_setCell, size_drewN]; omega))).trans (by simp [go_sem, *]); have ca3_1 : w3.cell? ⟨w.heap.size, 1, none⟩ = some (.int .i64 (b)) := (hcw3 (w.heap.size) 1 (by first | omega | (simp only [World.size_alloc, World.size_drew, World.size_setCell, size_drewN]; omega))).trans (by simp [go_sem, *]); have oa3 : w.heap.size < w3.heap.size := (by omega)
  go_wp2_with fail; (refine (H3.out _).mono ?_; rintro e w4 ⟨rfl, hw4⟩; obtain ⟨hcw4, hfw4, hlw4, hmw4, hnw4⟩ := bcell3 hw4; have hzw4 := hw4.size; (try simp only [World.size_alloc, World.size_setCell, World.size_drew, size_drewN] at hzw4))
  have ca4_0 : w4.cell? ⟨w.heap.size, 0, none⟩ = some (.int .i64 (a)) := (hcw4 (w.heap.size) 0 (by first | omega | (simp only [World.size_alloc, World.size_drew, World.size_setCell, size_drewN]; omega))).trans (by simp [go_sem, *]); have ca4_1 : w4.cell? ⟨w.heap.size, 1, none⟩ = some (.int .i64 (b)) := (hcw4 (w.heap.size) 1 (by first | omega | (simp only [World.size_alloc, World.size_drew, World.size_setCell, size_drewN]; omega))).trans (by simp [go_sem, *]); have oa4 : w.heap.size < w4.heap.size := (by omega)
  go_wp2
  go_ret
  exact ⟨rfl, by (repeat' (first | (with_reducible exact Below.refl _ _) | (with_reducible assumption) | (with_reducible refine Below.alloc ?_ ?_ _) | (with_reducible refine Below.drew ?_) | (with_reducible refine below_drewN ?_ _) | (with_reducible refine Below.setCell ?_ ?_ _) | (with_reducible refine below_step (by with_reducible assumption) ?_ ?_) | (with_reducible exact Below.size (by with_reducible assumption)) | go_size))⟩
set_option maxRecDepth 100000 in
set_option maxHeartbeats 1000000 in
theorem raySnell_w5 (a b f s cn cd yn yd c1 : Int) (w : World)
    (H1 : (Hid (∀ W, Calls Try.prog 65 #[.agg #[.int .i64 a, .int .i64 b], .int .i64 f, .int .i64 s] W fun e w' => e = .returned (.tuple #[.bool true, .int .i64 0]) ∧ Below W.heap.size W w')))
    (H2 : (Hid (∀ W, Calls Try.prog 64 #[.int .i64 f, .int .i64 s] W fun e w' => e = .returned (.tuple #[.agg #[.int .i64 cn, .int .i64 cd], .int .i64 12]) ∧ Below W.heap.size W w')))
    (H3 : (Hid (∀ W, Calls Try.prog 66 #[.agg #[.int .i64 a, .int .i64 b], .int .i64 f, .int .i64 s] W fun e w' => e = .returned (.tuple #[.agg #[.int .i64 yn, .int .i64 yd], .int .i64 0]) ∧ Below W.heap.size W w')))
    (G7 : (Hid (∀ W, Calls Try.prog 71 #[.int .i64 (yn * f), .int .i64 (yd * s), .int .i64 (a * a * s), .int .i64 ((a * a + b * b) * f)] W fun e w' => e = .returned (.int .i64 0) ∧ W = w')))
    (G8 : Hid (inB yn 0 yd = true)) (G9 : Hid (inB yd 1 1000000000 = true))
    (hb3 : 0 ≤ a * a * s ∧ a * a * s ≤ 10000000000) (hb4 : 1 ≤ (a * a + b * b) * f ∧ (a * a + b * b) * f ≤ 20000000000) (hy1 : 0 ≤ yn * f ∧ yn * f ≤ 10000000000000) (hy2 : 0 ≤ yd * s ∧ yd * s ≤ 10000000000000)
    (hb1 : 0 ≤ a * a ∧ a * a ≤ 1000000) (hb2 : 1 ≤ b * b ∧ b * b ≤ 1000000) (hc : True) :
    Calls Try.prog 15 #[.agg #[.int .i64 a, .int .i64 b], .int .i64 f, .int .i64 s] w fun e w' => e = .returned (.bool true) ∧ Below w.heap.size w w' := by
  go_enter Try.func15, Try.ntmps15
  go_wp2_with fail; (refine (awake_any _).mono ?_; rintro e w1 ⟨rfl, hw1⟩; obtain ⟨hcw1, hfw1, hlw1, hmw1, hnw1⟩ := bcell3 hw1; have hzw1 := hw1.size; (try simp only [World.size_alloc, World.size_setCell, World.size_drew, size_drewN] at hzw1))
  have ca1_0 : w1.cell? ⟨w.heap.size, 0, none⟩ = some (.int .i64 (a)) := (hcw1 (w.heap.size) 0 (by first | omega | (simp only [World.size_alloc, World.size_drew, World.size_setCell, size_drewN]; omega))).trans (by simp [go_sem, *]); have ca1_1 : w1.cell? ⟨w.heap.size, 1, none⟩ = some (.int .i64 (b)) := (hcw1 (w.heap.size) 1 (by first | omega | (simp only [World.size_alloc, World.size_drew, World.size_setCell, size_drewN]; omega))).trans (by simp [go_sem, *]); have oa1 : w.heap.size < w1.heap.size := (by omega)
  go_wp2_with fail; (refine (H1.out _).mono ?_; rintro e w2 ⟨rfl, hw2⟩; obtain ⟨hcw2, hfw2, hlw2, hmw2, hnw2⟩ := bcell3 hw2; have hzw2 := hw2.size; (try simp only [World.size_alloc, World.size_setCell, World.size_drew, size_drewN] at hzw2))
  have ca2_0 : w2.cell? ⟨w.heap.size, 0, none⟩ = some (.int .i64 (a)) := (hcw2 (w.heap.size) 0 (by first | omega | (simp only [World.size_alloc, World.size_drew, World.size_setCell, size_drewN]; omega))).trans (by simp [go_sem, *]); have ca2_1 : w2.cell? ⟨w.heap.size, 1, none⟩ = some (.int .i64 (b)) := (hcw2 (w.heap.size) 1 (by first | omega | (simp only [World.size_alloc, World.size_drew, World.size_setCell, size_drewN]; omega))).trans (by simp [go_sem, *]); have oa2 : w.heap.size < w2.heap.size := (by omega)
  go_wp2_with fail; (refine (H2.out _).mono ?_; rintro e w3 ⟨rfl, hw3⟩; obtain ⟨hcw3, hfw3, hlw3, hmw3, hnw3⟩ := bcell3 hw3; have hzw3 := hw3.size; (try simp only [World.size_alloc, World.size_setCell, World.size_drew, size_drewN] at hzw3))
  have ca3_0 : w3.cell? ⟨w.heap.size, 0, none⟩ = some (.int .i64 (a)) := (hcw3 (w.heap.size) 0 (by first | omega | (simp only [World.size_alloc, World.size_drew, World.size_setCell, size_drewN]; omega))).trans (by simp [go_sem, *]); have ca3_1 : w3.cell? ⟨w.heap.size, 1, none⟩ = some (.int .i64 (b)) := (hcw3 (w.heap.size) 1 (by first | omega | (simp only [World.size_alloc, World.size_drew, World.size_setCell, size_drewN]; omega))).trans (by simp [go_sem, *]); have oa3 : w.heap.size < w3.heap.size := (by omega)
  go_wp2_with fail; (refine (H3.out _).mono ?_; rintro e w4 ⟨rfl, hw4⟩; obtain ⟨hcw4, hfw4, hlw4, hmw4, hnw4⟩ := bcell3 hw4; have hzw4 := hw4.size; (try simp only [World.size_alloc, World.size_setCell, World.size_drew, size_drewN] at hzw4))
  have ca4_0 : w4.cell? ⟨w.heap.size, 0, none⟩ = some (.int .i64 (a)) := (hcw4 (w.heap.size) 0 (by first | omega | (simp only [World.size_alloc, World.size_drew, World.size_setCell, size_drewN]; omega))).trans (by simp [go_sem, *]); have ca4_1 : w4.cell? ⟨w.heap.size, 1, none⟩ = some (.int .i64 (b)) := (hcw4 (w.heap.size) 1 (by first | omega | (simp only [World.size_alloc, World.size_drew, World.size_setCell, size_drewN]; omega))).trans (by simp [go_sem, *]); have oa4 : w.heap.size < w4.heap.size := (by omega)
  go_wp2_with fail
  refine (bwithin_any yn 0 yd _).mono ?_
  rw [G8.out]
  rintro e w' ⟨rfl, rfl⟩
  go_wp2_with fail
  refine (bwithin_any yd 1 1000000000 _).mono ?_
  rw [G9.out]
  rintro e w' ⟨rfl, rfl⟩
  go_wp2_with fail
  refine (G7.out _).mono ?_
  rintro e w' ⟨rfl, rfl⟩
  go_wp2
  go_ret
  exact ⟨rfl, by (repeat' (first | (with_reducible exact Below.refl _ _) | (with_reducible assumption) | (with_reducible refine Below.alloc ?_ ?_ _) | (with_reducible refine Below.drew ?_) | (with_reducible refine below_drewN ?_ _) | (with_reducible refine Below.setCell ?_ ?_ _) | (with_reducible refine below_step (by with_reducible assumption) ?_ ?_) | (with_reducible exact Below.size (by with_reducible assumption)) | go_size))⟩
end Go.Proofs.Ytegdokmgplancaa
