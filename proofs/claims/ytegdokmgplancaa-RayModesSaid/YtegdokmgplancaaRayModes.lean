/-
  THE WALK of RayModes: it returns true, and writes nothing that was there.
-/
import Derived.Test.YtegdokmgplancaaModes
set_option linter.unusedVariables false
set_option linter.unusedSimpArgs false
namespace Go.Proofs.Ytegdokmgplancaa
open Go.RowKit

set_option maxRecDepth 100000 in
set_option maxHeartbeats 2000000 in
theorem modes_a (m : Md) (z : Int) (w : World) (h : ¬ mE m = 0) :
    Calls Try.prog 8 #[.agg #[.int .i64 m.Wedge, .int .i64 m.Metal, .int .i64 m.Skips, .int .i64 m.Thick], .int .i64 z] w fun e w' => e = .returned (.bool true) ∧ Below w.heap.size w w' := by
  have h1 : uE m z = mE m := by unfold uE; rw [frst, if_neg h]
  have K1 : ∀ W, _ := fun W => Unfolded_err m z W (by rw [h1]; exact h)
  have K2 : ∀ W, _ := fun W => rcheckMode_any m W
  have K3 : ∀ W, _ := fun W => checkMode_any m W
  rw [h1] at K1
  clear h1
  generalize mE m = e1 at *
  have H1 := Lib.hid K1
  have H2 := Lib.hid K2
  have H3 := Lib.hid K3
  clear K1 K2 K3
  go_enter Try.func8, Try.ntmps8
  go_wp2_with fail; (refine (awake_any _).mono ?_; rintro e w1 ⟨rfl, hw1⟩; obtain ⟨hcw1, hfw1, hlw1, hmw1, hnw1⟩ := bcell3 hw1; have hzw1 := hw1.size; (try simp only [World.size_alloc, World.size_setCell, World.size_drew, size_drewN] at hzw1))
  have ca1_0 : w1.cell? ⟨w.heap.size, 0, none⟩ = some (.int .i64 (m.Wedge)) := (hcw1 (w.heap.size) 0 (by first | omega | (simp only [World.size_alloc, World.size_drew, World.size_setCell, size_drewN]; omega))).trans (by simp [go_sem, *]); have ca1_1 : w1.cell? ⟨w.heap.size, 1, none⟩ = some (.int .i64 (m.Metal)) := (hcw1 (w.heap.size) 1 (by first | omega | (simp only [World.size_alloc, World.size_drew, World.size_setCell, size_drewN]; omega))).trans (by simp [go_sem, *]); have ca1_2 : w1.cell? ⟨w.heap.size, 2, none⟩ = some (.int .i64 (m.Skips)) := (hcw1 (w.heap.size) 2 (by first | omega | (simp only [World.size_alloc, World.size_drew, World.size_setCell, size_drewN]; omega))).trans (by simp [go_sem, *]); have ca1_3 : w1.cell? ⟨w.heap.size, 3, none⟩ = some (.int .i64 (m.Thick)) := (hcw1 (w.heap.size) 3 (by first | omega | (simp only [World.size_alloc, World.size_drew, World.size_setCell, size_drewN]; omega))).trans (by simp [go_sem, *]); have oa1 : w.heap.size < w1.heap.size := (by omega)
  go_wp2_with fail; (refine (H1.out _).mono ?_; rintro e w2 ⟨rfl, hw2⟩; obtain ⟨hcw2, hfw2, hlw2, hmw2, hnw2⟩ := bcell3 hw2; have hzw2 := hw2.size; (try simp only [World.size_alloc, World.size_setCell, World.size_drew, size_drewN] at hzw2))
  have ca2_0 : w2.cell? ⟨w.heap.size, 0, none⟩ = some (.int .i64 (m.Wedge)) := (hcw2 (w.heap.size) 0 (by first | omega | (simp only [World.size_alloc, World.size_drew, World.size_setCell, size_drewN]; omega))).trans (by simp [go_sem, *]); have ca2_1 : w2.cell? ⟨w.heap.size, 1, none⟩ = some (.int .i64 (m.Metal)) := (hcw2 (w.heap.size) 1 (by first | omega | (simp only [World.size_alloc, World.size_drew, World.size_setCell, size_drewN]; omega))).trans (by simp [go_sem, *]); have ca2_2 : w2.cell? ⟨w.heap.size, 2, none⟩ = some (.int .i64 (m.Skips)) := (hcw2 (w.heap.size) 2 (by first | omega | (simp only [World.size_alloc, World.size_drew, World.size_setCell, size_drewN]; omega))).trans (by simp [go_sem, *]); have ca2_3 : w2.cell? ⟨w.heap.size, 3, none⟩ = some (.int .i64 (m.Thick)) := (hcw2 (w.heap.size) 3 (by first | omega | (simp only [World.size_alloc, World.size_drew, World.size_setCell, size_drewN]; omega))).trans (by simp [go_sem, *]); have oa2 : w.heap.size < w2.heap.size := (by omega)
  go_wp2_with fail; (refine (H2.out _).mono ?_; rintro e w3 ⟨rfl, hw3⟩; obtain ⟨hcw3, hfw3, hlw3, hmw3, hnw3⟩ := bcell3 hw3; have hzw3 := hw3.size; (try simp only [World.size_alloc, World.size_setCell, World.size_drew, size_drewN] at hzw3))
  have ca3_0 : w3.cell? ⟨w.heap.size, 0, none⟩ = some (.int .i64 (m.Wedge)) := (hcw3 (w.heap.size) 0 (by first | omega | (simp only [World.size_alloc, World.size_drew, World.size_setCell, size_drewN]; omega))).trans (by simp [go_sem, *]); have ca3_1 : w3.cell? ⟨w.heap.size, 1, none⟩ = some (.int .i64 (m.Metal)) := (hcw3 (w.heap.size) 1 (by first | omega | (simp only [World.size_alloc, World.size_drew, World.size_setCell, size_drewN]; omega))).trans (by simp [go_sem, *]); have ca3_2 : w3.cell? ⟨w.heap.size, 2, none⟩ = some (.int .i64 (m.Skips)) := (hcw3 (w.heap.size) 2 (by first | omega | (simp only [World.size_alloc, World.size_drew, World.size_setCell, size_drewN]; omega))).trans (by simp [go_sem, *]); have ca3_3 : w3.cell? ⟨w.heap.size, 3, none⟩ = some (.int .i64 (m.Thick)) := (hcw3 (w.heap.size) 3 (by first | omega | (simp only [World.size_alloc, World.size_drew, World.size_setCell, size_drewN]; omega))).trans (by simp [go_sem, *]); have oa3 : w.heap.size < w3.heap.size := (by omega)
  go_wp2_with fail; (refine (H3.out _).mono ?_; rintro e w4 ⟨rfl, hw4⟩; obtain ⟨hcw4, hfw4, hlw4, hmw4, hnw4⟩ := bcell3 hw4; have hzw4 := hw4.size; (try simp only [World.size_alloc, World.size_setCell, World.size_drew, size_drewN] at hzw4))
  have ca4_0 : w4.cell? ⟨w.heap.size, 0, none⟩ = some (.int .i64 (m.Wedge)) := (hcw4 (w.heap.size) 0 (by first | omega | (simp only [World.size_alloc, World.size_drew, World.size_setCell, size_drewN]; omega))).trans (by simp [go_sem, *]); have ca4_1 : w4.cell? ⟨w.heap.size, 1, none⟩ = some (.int .i64 (m.Metal)) := (hcw4 (w.heap.size) 1 (by first | omega | (simp only [World.size_alloc, World.size_drew, World.size_setCell, size_drewN]; omega))).trans (by simp [go_sem, *]); have ca4_2 : w4.cell? ⟨w.heap.size, 2, none⟩ = some (.int .i64 (m.Skips)) := (hcw4 (w.heap.size) 2 (by first | omega | (simp only [World.size_alloc, World.size_drew, World.size_setCell, size_drewN]; omega))).trans (by simp [go_sem, *]); have ca4_3 : w4.cell? ⟨w.heap.size, 3, none⟩ = some (.int .i64 (m.Thick)) := (hcw4 (w.heap.size) 3 (by first | omega | (simp only [World.size_alloc, World.size_drew, World.size_setCell, size_drewN]; omega))).trans (by simp [go_sem, *]); have oa4 : w.heap.size < w4.heap.size := (by omega)
  go_wp2
  go_ret
  exact ⟨rfl, by (repeat' (first | (with_reducible exact Below.refl _ _) | (with_reducible assumption) | (with_reducible refine Below.alloc ?_ ?_ _) | (with_reducible refine Below.drew ?_) | (with_reducible refine below_drewN ?_ _) | (with_reducible refine Below.setCell ?_ ?_ _) | (with_reducible refine below_step (by with_reducible assumption) ?_ ?_) | (with_reducible exact Below.size (by with_reducible assumption)) | go_size))⟩
set_option maxRecDepth 100000 in
set_option maxHeartbeats 2000000 in
theorem modes_b (m : Md) (z : Int) (w : World) (h : okM m) (hz : inB z 1 (m.Thick - 1) = false) :
    Calls Try.prog 8 #[.agg #[.int .i64 m.Wedge, .int .i64 m.Metal, .int .i64 m.Skips, .int .i64 m.Thick], .int .i64 z] w fun e w' => e = .returned (.bool true) ∧ Below w.heap.size w w' := by
  have h1 : uE m z = 22 := by unfold uE; rw [mE_zero.2 h, hz]; rfl
  have K1 : ∀ W, _ := fun W => Unfolded_err m z W (by rw [h1]; decide)
  have K2 : ∀ W, _ := fun W => rcheckMode_any m W
  have K3 : ∀ W, _ := fun W => checkMode_any m W
  rw [h1] at K1
  rw [mE_zero.2 h] at K2 K3
  obtain ⟨-, -, g3, g4⟩ := h
  clear h1
  have H1 := Lib.hid K1
  have H2 := Lib.hid K2
  have H3 := Lib.hid K3
  have HZ := Lib.hid hz
  clear K1 K2 K3 hz
  go_enter Try.func8, Try.ntmps8
  go_wp2_with fail; (refine (awake_any _).mono ?_; rintro e w1 ⟨rfl, hw1⟩; obtain ⟨hcw1, hfw1, hlw1, hmw1, hnw1⟩ := bcell3 hw1; have hzw1 := hw1.size; (try simp only [World.size_alloc, World.size_setCell, World.size_drew, size_drewN] at hzw1))
  have ca1_0 : w1.cell? ⟨w.heap.size, 0, none⟩ = some (.int .i64 (m.Wedge)) := (hcw1 (w.heap.size) 0 (by first | omega | (simp only [World.size_alloc, World.size_drew, World.size_setCell, size_drewN]; omega))).trans (by simp [go_sem, *]); have ca1_1 : w1.cell? ⟨w.heap.size, 1, none⟩ = some (.int .i64 (m.Metal)) := (hcw1 (w.heap.size) 1 (by first | omega | (simp only [World.size_alloc, World.size_drew, World.size_setCell, size_drewN]; omega))).trans (by simp [go_sem, *]); have ca1_2 : w1.cell? ⟨w.heap.size, 2, none⟩ = some (.int .i64 (m.Skips)) := (hcw1 (w.heap.size) 2 (by first | omega | (simp only [World.size_alloc, World.size_drew, World.size_setCell, size_drewN]; omega))).trans (by simp [go_sem, *]); have ca1_3 : w1.cell? ⟨w.heap.size, 3, none⟩ = some (.int .i64 (m.Thick)) := (hcw1 (w.heap.size) 3 (by first | omega | (simp only [World.size_alloc, World.size_drew, World.size_setCell, size_drewN]; omega))).trans (by simp [go_sem, *]); have oa1 : w.heap.size < w1.heap.size := (by omega)
  go_wp2_with fail; (refine (H1.out _).mono ?_; rintro e w2 ⟨rfl, hw2⟩; obtain ⟨hcw2, hfw2, hlw2, hmw2, hnw2⟩ := bcell3 hw2; have hzw2 := hw2.size; (try simp only [World.size_alloc, World.size_setCell, World.size_drew, size_drewN] at hzw2))
  have ca2_0 : w2.cell? ⟨w.heap.size, 0, none⟩ = some (.int .i64 (m.Wedge)) := (hcw2 (w.heap.size) 0 (by first | omega | (simp only [World.size_alloc, World.size_drew, World.size_setCell, size_drewN]; omega))).trans (by simp [go_sem, *]); have ca2_1 : w2.cell? ⟨w.heap.size, 1, none⟩ = some (.int .i64 (m.Metal)) := (hcw2 (w.heap.size) 1 (by first | omega | (simp only [World.size_alloc, World.size_drew, World.size_setCell, size_drewN]; omega))).trans (by simp [go_sem, *]); have ca2_2 : w2.cell? ⟨w.heap.size, 2, none⟩ = some (.int .i64 (m.Skips)) := (hcw2 (w.heap.size) 2 (by first | omega | (simp only [World.size_alloc, World.size_drew, World.size_setCell, size_drewN]; omega))).trans (by simp [go_sem, *]); have ca2_3 : w2.cell? ⟨w.heap.size, 3, none⟩ = some (.int .i64 (m.Thick)) := (hcw2 (w.heap.size) 3 (by first | omega | (simp only [World.size_alloc, World.size_drew, World.size_setCell, size_drewN]; omega))).trans (by simp [go_sem, *]); have oa2 : w.heap.size < w2.heap.size := (by omega)
  go_wp2_with fail; (refine (H2.out _).mono ?_; rintro e w3 ⟨rfl, hw3⟩; obtain ⟨hcw3, hfw3, hlw3, hmw3, hnw3⟩ := bcell3 hw3; have hzw3 := hw3.size; (try simp only [World.size_alloc, World.size_setCell, World.size_drew, size_drewN] at hzw3))
  have ca3_0 : w3.cell? ⟨w.heap.size, 0, none⟩ = some (.int .i64 (m.Wedge)) := (hcw3 (w.heap.size) 0 (by first | omega | (simp only [World.size_alloc, World.size_drew, World.size_setCell, size_drewN]; omega))).trans (by simp [go_sem, *]); have ca3_1 : w3.cell? ⟨w.heap.size, 1, none⟩ = some (.int .i64 (m.Metal)) := (hcw3 (w.heap.size) 1 (by first | omega | (simp only [World.size_alloc, World.size_drew, World.size_setCell, size_drewN]; omega))).trans (by simp [go_sem, *]); have ca3_2 : w3.cell? ⟨w.heap.size, 2, none⟩ = some (.int .i64 (m.Skips)) := (hcw3 (w.heap.size) 2 (by first | omega | (simp only [World.size_alloc, World.size_drew, World.size_setCell, size_drewN]; omega))).trans (by simp [go_sem, *]); have ca3_3 : w3.cell? ⟨w.heap.size, 3, none⟩ = some (.int .i64 (m.Thick)) := (hcw3 (w.heap.size) 3 (by first | omega | (simp only [World.size_alloc, World.size_drew, World.size_setCell, size_drewN]; omega))).trans (by simp [go_sem, *]); have oa3 : w.heap.size < w3.heap.size := (by omega)
  go_wp2_with fail; (refine (H3.out _).mono ?_; rintro e w4 ⟨rfl, hw4⟩; obtain ⟨hcw4, hfw4, hlw4, hmw4, hnw4⟩ := bcell3 hw4; have hzw4 := hw4.size; (try simp only [World.size_alloc, World.size_setCell, World.size_drew, size_drewN] at hzw4))
  have ca4_0 : w4.cell? ⟨w.heap.size, 0, none⟩ = some (.int .i64 (m.Wedge)) := (hcw4 (w.heap.size) 0 (by first | omega | (simp only [World.size_alloc, World.size_drew, World.size_setCell, size_drewN]; omega))).trans (by simp [go_sem, *]); have ca4_1 : w4.cell? ⟨w.heap.size, 1, none⟩ = some (.int .i64 (m.Metal)) := (hcw4 (w.heap.size) 1 (by first | omega | (simp only [World.size_alloc, World.size_drew, World.size_setCell, size_drewN]; omega))).trans (by simp [go_sem, *]); have ca4_2 : w4.cell? ⟨w.heap.size, 2, none⟩ = some (.int .i64 (m.Skips)) := (hcw4 (w.heap.size) 2 (by first | omega | (simp only [World.size_alloc, World.size_drew, World.size_setCell, size_drewN]; omega))).trans (by simp [go_sem, *]); have ca4_3 : w4.cell? ⟨w.heap.size, 3, none⟩ = some (.int .i64 (m.Thick)) := (hcw4 (w.heap.size) 3 (by first | omega | (simp only [World.size_alloc, World.size_drew, World.size_setCell, size_drewN]; omega))).trans (by simp [go_sem, *]); have oa4 : w.heap.size < w4.heap.size := (by omega)
  go_wp2_with fail
  refine (bwithin_any z 1 (m.Thick - 1) _).mono ?_
  rw [HZ.out]
  rintro e w' ⟨rfl, rfl⟩
  go_wp2
  go_ret
  exact ⟨rfl, by (repeat' (first | (with_reducible exact Below.refl _ _) | (with_reducible assumption) | (with_reducible refine Below.alloc ?_ ?_ _) | (with_reducible refine Below.drew ?_) | (with_reducible refine below_drewN ?_ _) | (with_reducible refine Below.setCell ?_ ?_ _) | (with_reducible refine below_step (by with_reducible assumption) ?_ ?_) | (with_reducible exact Below.size (by with_reducible assumption)) | go_size))⟩

set_option maxRecDepth 100000 in
set_option maxHeartbeats 2000000 in
theorem modes_odd (m : Md) (z : Int) (w : World) (h : okM m) (hz : 1 ≤ z ∧ z ≤ m.Thick - 1) (ho : m.Skips % 2 = 1) :
    Calls Try.prog 8 #[.agg #[.int .i64 m.Wedge, .int .i64 m.Metal, .int .i64 m.Skips, .int .i64 m.Thick], .int .i64 z] w fun e w' => e = .returned (.bool true) ∧ Below w.heap.size w w' := by
  have K1 : ∀ W, _ := fun W => Unfolded_ok m z W h hz
  have K2 : ∀ W, _ := fun W => rcheckMode_any m W
  have K3 : ∀ W, _ := fun W => checkMode_any m W
  have K4 : ∀ W, _ := fun W => runfolded_any m z W h hz
  rw [mE_zero.2 h] at K2 K3
  have hb := unf_bd h hz
  obtain ⟨-, -, g3, g4⟩ := h
  have H1 := Lib.hid K1
  have H2 := Lib.hid K2
  have H3 := Lib.hid K3
  have H4 := Lib.hid K4
  have HZ := Lib.hid (inB_iff.2 hz)
  clear K1 K2 K3 K4 hz
  generalize unf m z = n at *
  have t1 : (m.Skips % 2 == 0) = false := by simp [ho]
  have t2 : (m.Skips % 2 != 0) = true := by simp [ho]
  clear ho
  go_enter Try.func8, Try.ntmps8
  go_wp2_with fail; (refine (awake_any _).mono ?_; rintro e w1 ⟨rfl, hw1⟩; obtain ⟨hcw1, hfw1, hlw1, hmw1, hnw1⟩ := bcell3 hw1; have hzw1 := hw1.size; (try simp only [World.size_alloc, World.size_setCell, World.size_drew, size_drewN] at hzw1))
  have ca1_0 : w1.cell? ⟨w.heap.size, 0, none⟩ = some (.int .i64 (m.Wedge)) := (hcw1 (w.heap.size) 0 (by first | omega | (simp only [World.size_alloc, World.size_drew, World.size_setCell, size_drewN]; omega))).trans (by simp [go_sem, *]); have ca1_1 : w1.cell? ⟨w.heap.size, 1, none⟩ = some (.int .i64 (m.Metal)) := (hcw1 (w.heap.size) 1 (by first | omega | (simp only [World.size_alloc, World.size_drew, World.size_setCell, size_drewN]; omega))).trans (by simp [go_sem, *]); have ca1_2 : w1.cell? ⟨w.heap.size, 2, none⟩ = some (.int .i64 (m.Skips)) := (hcw1 (w.heap.size) 2 (by first | omega | (simp only [World.size_alloc, World.size_drew, World.size_setCell, size_drewN]; omega))).trans (by simp [go_sem, *]); have ca1_3 : w1.cell? ⟨w.heap.size, 3, none⟩ = some (.int .i64 (m.Thick)) := (hcw1 (w.heap.size) 3 (by first | omega | (simp only [World.size_alloc, World.size_drew, World.size_setCell, size_drewN]; omega))).trans (by simp [go_sem, *]); have oa1 : w.heap.size < w1.heap.size := (by omega)
  go_wp2_with fail; (refine (H1.out _).mono ?_; rintro e w2 ⟨rfl, hw2⟩; obtain ⟨hcw2, hfw2, hlw2, hmw2, hnw2⟩ := bcell3 hw2; have hzw2 := hw2.size; (try simp only [World.size_alloc, World.size_setCell, World.size_drew, size_drewN] at hzw2))
  have ca2_0 : w2.cell? ⟨w.heap.size, 0, none⟩ = some (.int .i64 (m.Wedge)) := (hcw2 (w.heap.size) 0 (by first | omega | (simp only [World.size_alloc, World.size_drew, World.size_setCell, size_drewN]; omega))).trans (by simp [go_sem, *]); have ca2_1 : w2.cell? ⟨w.heap.size, 1, none⟩ = some (.int .i64 (m.Metal)) := (hcw2 (w.heap.size) 1 (by first | omega | (simp only [World.size_alloc, World.size_drew, World.size_setCell, size_drewN]; omega))).trans (by simp [go_sem, *]); have ca2_2 : w2.cell? ⟨w.heap.size, 2, none⟩ = some (.int .i64 (m.Skips)) := (hcw2 (w.heap.size) 2 (by first | omega | (simp only [World.size_alloc, World.size_drew, World.size_setCell, size_drewN]; omega))).trans (by simp [go_sem, *]); have ca2_3 : w2.cell? ⟨w.heap.size, 3, none⟩ = some (.int .i64 (m.Thick)) := (hcw2 (w.heap.size) 3 (by first | omega | (simp only [World.size_alloc, World.size_drew, World.size_setCell, size_drewN]; omega))).trans (by simp [go_sem, *]); have oa2 : w.heap.size < w2.heap.size := (by omega)
  go_wp2_with fail; (refine (H2.out _).mono ?_; rintro e w3 ⟨rfl, hw3⟩; obtain ⟨hcw3, hfw3, hlw3, hmw3, hnw3⟩ := bcell3 hw3; have hzw3 := hw3.size; (try simp only [World.size_alloc, World.size_setCell, World.size_drew, size_drewN] at hzw3))
  have ca3_0 : w3.cell? ⟨w.heap.size, 0, none⟩ = some (.int .i64 (m.Wedge)) := (hcw3 (w.heap.size) 0 (by first | omega | (simp only [World.size_alloc, World.size_drew, World.size_setCell, size_drewN]; omega))).trans (by simp [go_sem, *]); have ca3_1 : w3.cell? ⟨w.heap.size, 1, none⟩ = some (.int .i64 (m.Metal)) := (hcw3 (w.heap.size) 1 (by first | omega | (simp only [World.size_alloc, World.size_drew, World.size_setCell, size_drewN]; omega))).trans (by simp [go_sem, *]); have ca3_2 : w3.cell? ⟨w.heap.size, 2, none⟩ = some (.int .i64 (m.Skips)) := (hcw3 (w.heap.size) 2 (by first | omega | (simp only [World.size_alloc, World.size_drew, World.size_setCell, size_drewN]; omega))).trans (by simp [go_sem, *]); have ca3_3 : w3.cell? ⟨w.heap.size, 3, none⟩ = some (.int .i64 (m.Thick)) := (hcw3 (w.heap.size) 3 (by first | omega | (simp only [World.size_alloc, World.size_drew, World.size_setCell, size_drewN]; omega))).trans (by simp [go_sem, *]); have oa3 : w.heap.size < w3.heap.size := (by omega)
  go_wp2_with fail; (refine (H3.out _).mono ?_; rintro e w4 ⟨rfl, hw4⟩; obtain ⟨hcw4, hfw4, hlw4, hmw4, hnw4⟩ := bcell3 hw4; have hzw4 := hw4.size; (try simp only [World.size_alloc, World.size_setCell, World.size_drew, size_drewN] at hzw4))
  have ca4_0 : w4.cell? ⟨w.heap.size, 0, none⟩ = some (.int .i64 (m.Wedge)) := (hcw4 (w.heap.size) 0 (by first | omega | (simp only [World.size_alloc, World.size_drew, World.size_setCell, size_drewN]; omega))).trans (by simp [go_sem, *]); have ca4_1 : w4.cell? ⟨w.heap.size, 1, none⟩ = some (.int .i64 (m.Metal)) := (hcw4 (w.heap.size) 1 (by first | omega | (simp only [World.size_alloc, World.size_drew, World.size_setCell, size_drewN]; omega))).trans (by simp [go_sem, *]); have ca4_2 : w4.cell? ⟨w.heap.size, 2, none⟩ = some (.int .i64 (m.Skips)) := (hcw4 (w.heap.size) 2 (by first | omega | (simp only [World.size_alloc, World.size_drew, World.size_setCell, size_drewN]; omega))).trans (by simp [go_sem, *]); have ca4_3 : w4.cell? ⟨w.heap.size, 3, none⟩ = some (.int .i64 (m.Thick)) := (hcw4 (w.heap.size) 3 (by first | omega | (simp only [World.size_alloc, World.size_drew, World.size_setCell, size_drewN]; omega))).trans (by simp [go_sem, *]); have oa4 : w.heap.size < w4.heap.size := (by omega)
  go_wp2_with fail
  refine (bwithin_any z 1 (m.Thick - 1) _).mono ?_
  rw [HZ.out]
  rintro e w' ⟨rfl, rfl⟩
  go_wp2_with fail; (refine (H4.out _).mono ?_; rintro e w5 ⟨rfl, hw5⟩; obtain ⟨hcw5, hfw5, hlw5, hmw5, hnw5⟩ := bcell3 hw5; have hzw5 := hw5.size; (try simp only [World.size_alloc, World.size_setCell, World.size_drew, size_drewN] at hzw5))
  have ca5_0 : w5.cell? ⟨w.heap.size, 0, none⟩ = some (.int .i64 (m.Wedge)) := (hcw5 (w.heap.size) 0 (by first | omega | (simp only [World.size_alloc, World.size_drew, World.size_setCell, size_drewN]; omega))).trans (by simp [go_sem, *]); have ca5_1 : w5.cell? ⟨w.heap.size, 1, none⟩ = some (.int .i64 (m.Metal)) := (hcw5 (w.heap.size) 1 (by first | omega | (simp only [World.size_alloc, World.size_drew, World.size_setCell, size_drewN]; omega))).trans (by simp [go_sem, *]); have ca5_2 : w5.cell? ⟨w.heap.size, 2, none⟩ = some (.int .i64 (m.Skips)) := (hcw5 (w.heap.size) 2 (by first | omega | (simp only [World.size_alloc, World.size_drew, World.size_setCell, size_drewN]; omega))).trans (by simp [go_sem, *]); have ca5_3 : w5.cell? ⟨w.heap.size, 3, none⟩ = some (.int .i64 (m.Thick)) := (hcw5 (w.heap.size) 3 (by first | omega | (simp only [World.size_alloc, World.size_drew, World.size_setCell, size_drewN]; omega))).trans (by simp [go_sem, *]); have oa5 : w.heap.size < w5.heap.size := (by omega)
  go_wp2
  go_ret
  exact ⟨rfl, by (repeat' (first | (with_reducible exact Below.refl _ _) | (with_reducible assumption) | (with_reducible refine Below.alloc ?_ ?_ _) | (with_reducible refine Below.drew ?_) | (with_reducible refine below_drewN ?_ _) | (with_reducible refine Below.setCell ?_ ?_ _) | (with_reducible refine below_step (by with_reducible assumption) ?_ ?_) | (with_reducible exact Below.size (by with_reducible assumption)) | go_size))⟩

set_option maxRecDepth 100000 in
set_option maxHeartbeats 2000000 in
theorem modes_four (m : Md) (z : Int) (w : World) (h : okM m) (hz : 1 ≤ z ∧ z ≤ m.Thick - 1) (ho : m.Skips = 4) :
    Calls Try.prog 8 #[.agg #[.int .i64 m.Wedge, .int .i64 m.Metal, .int .i64 m.Skips, .int .i64 m.Thick], .int .i64 z] w fun e w' => e = .returned (.bool true) ∧ Below w.heap.size w w' := by
  have K1 : ∀ W, _ := fun W => Unfolded_ok m z W h hz
  have K2 : ∀ W, _ := fun W => rcheckMode_any m W
  have K3 : ∀ W, _ := fun W => checkMode_any m W
  have K4 : ∀ W, _ := fun W => runfolded_any m z W h hz
  rw [mE_zero.2 h] at K2 K3
  have hb := unf_bd h hz
  obtain ⟨-, -, g3, g4⟩ := h
  have H1 := Lib.hid K1
  have H2 := Lib.hid K2
  have H3 := Lib.hid K3
  have H4 := Lib.hid K4
  have HZ := Lib.hid (inB_iff.2 hz)
  clear K1 K2 K3 K4 hz
  generalize unf m z = n at *
  have t1 : (m.Skips % 2 != 0) = false := by simp [ho]
  have t3 : (m.Skips == 4) = true := by simp [ho]
  clear ho
  go_enter Try.func8, Try.ntmps8
  go_wp2_with fail; (refine (awake_any _).mono ?_; rintro e w1 ⟨rfl, hw1⟩; obtain ⟨hcw1, hfw1, hlw1, hmw1, hnw1⟩ := bcell3 hw1; have hzw1 := hw1.size; (try simp only [World.size_alloc, World.size_setCell, World.size_drew, size_drewN] at hzw1))
  have ca1_0 : w1.cell? ⟨w.heap.size, 0, none⟩ = some (.int .i64 (m.Wedge)) := (hcw1 (w.heap.size) 0 (by first | omega | (simp only [World.size_alloc, World.size_drew, World.size_setCell, size_drewN]; omega))).trans (by simp [go_sem, *]); have ca1_1 : w1.cell? ⟨w.heap.size, 1, none⟩ = some (.int .i64 (m.Metal)) := (hcw1 (w.heap.size) 1 (by first | omega | (simp only [World.size_alloc, World.size_drew, World.size_setCell, size_drewN]; omega))).trans (by simp [go_sem, *]); have ca1_2 : w1.cell? ⟨w.heap.size, 2, none⟩ = some (.int .i64 (m.Skips)) := (hcw1 (w.heap.size) 2 (by first | omega | (simp only [World.size_alloc, World.size_drew, World.size_setCell, size_drewN]; omega))).trans (by simp [go_sem, *]); have ca1_3 : w1.cell? ⟨w.heap.size, 3, none⟩ = some (.int .i64 (m.Thick)) := (hcw1 (w.heap.size) 3 (by first | omega | (simp only [World.size_alloc, World.size_drew, World.size_setCell, size_drewN]; omega))).trans (by simp [go_sem, *]); have oa1 : w.heap.size < w1.heap.size := (by omega)
  go_wp2_with fail; (refine (H1.out _).mono ?_; rintro e w2 ⟨rfl, hw2⟩; obtain ⟨hcw2, hfw2, hlw2, hmw2, hnw2⟩ := bcell3 hw2; have hzw2 := hw2.size; (try simp only [World.size_alloc, World.size_setCell, World.size_drew, size_drewN] at hzw2))
  have ca2_0 : w2.cell? ⟨w.heap.size, 0, none⟩ = some (.int .i64 (m.Wedge)) := (hcw2 (w.heap.size) 0 (by first | omega | (simp only [World.size_alloc, World.size_drew, World.size_setCell, size_drewN]; omega))).trans (by simp [go_sem, *]); have ca2_1 : w2.cell? ⟨w.heap.size, 1, none⟩ = some (.int .i64 (m.Metal)) := (hcw2 (w.heap.size) 1 (by first | omega | (simp only [World.size_alloc, World.size_drew, World.size_setCell, size_drewN]; omega))).trans (by simp [go_sem, *]); have ca2_2 : w2.cell? ⟨w.heap.size, 2, none⟩ = some (.int .i64 (m.Skips)) := (hcw2 (w.heap.size) 2 (by first | omega | (simp only [World.size_alloc, World.size_drew, World.size_setCell, size_drewN]; omega))).trans (by simp [go_sem, *]); have ca2_3 : w2.cell? ⟨w.heap.size, 3, none⟩ = some (.int .i64 (m.Thick)) := (hcw2 (w.heap.size) 3 (by first | omega | (simp only [World.size_alloc, World.size_drew, World.size_setCell, size_drewN]; omega))).trans (by simp [go_sem, *]); have oa2 : w.heap.size < w2.heap.size := (by omega)
  go_wp2_with fail; (refine (H2.out _).mono ?_; rintro e w3 ⟨rfl, hw3⟩; obtain ⟨hcw3, hfw3, hlw3, hmw3, hnw3⟩ := bcell3 hw3; have hzw3 := hw3.size; (try simp only [World.size_alloc, World.size_setCell, World.size_drew, size_drewN] at hzw3))
  have ca3_0 : w3.cell? ⟨w.heap.size, 0, none⟩ = some (.int .i64 (m.Wedge)) := (hcw3 (w.heap.size) 0 (by first | omega | (simp only [World.size_alloc, World.size_drew, World.size_setCell, size_drewN]; omega))).trans (by simp [go_sem, *]); have ca3_1 : w3.cell? ⟨w.heap.size, 1, none⟩ = some (.int .i64 (m.Metal)) := (hcw3 (w.heap.size) 1 (by first | omega | (simp only [World.size_alloc, World.size_drew, World.size_setCell, size_drewN]; omega))).trans (by simp [go_sem, *]); have ca3_2 : w3.cell? ⟨w.heap.size, 2, none⟩ = some (.int .i64 (m.Skips)) := (hcw3 (w.heap.size) 2 (by first | omega | (simp only [World.size_alloc, World.size_drew, World.size_setCell, size_drewN]; omega))).trans (by simp [go_sem, *]); have ca3_3 : w3.cell? ⟨w.heap.size, 3, none⟩ = some (.int .i64 (m.Thick)) := (hcw3 (w.heap.size) 3 (by first | omega | (simp only [World.size_alloc, World.size_drew, World.size_setCell, size_drewN]; omega))).trans (by simp [go_sem, *]); have oa3 : w.heap.size < w3.heap.size := (by omega)
  go_wp2_with fail; (refine (H3.out _).mono ?_; rintro e w4 ⟨rfl, hw4⟩; obtain ⟨hcw4, hfw4, hlw4, hmw4, hnw4⟩ := bcell3 hw4; have hzw4 := hw4.size; (try simp only [World.size_alloc, World.size_setCell, World.size_drew, size_drewN] at hzw4))
  have ca4_0 : w4.cell? ⟨w.heap.size, 0, none⟩ = some (.int .i64 (m.Wedge)) := (hcw4 (w.heap.size) 0 (by first | omega | (simp only [World.size_alloc, World.size_drew, World.size_setCell, size_drewN]; omega))).trans (by simp [go_sem, *]); have ca4_1 : w4.cell? ⟨w.heap.size, 1, none⟩ = some (.int .i64 (m.Metal)) := (hcw4 (w.heap.size) 1 (by first | omega | (simp only [World.size_alloc, World.size_drew, World.size_setCell, size_drewN]; omega))).trans (by simp [go_sem, *]); have ca4_2 : w4.cell? ⟨w.heap.size, 2, none⟩ = some (.int .i64 (m.Skips)) := (hcw4 (w.heap.size) 2 (by first | omega | (simp only [World.size_alloc, World.size_drew, World.size_setCell, size_drewN]; omega))).trans (by simp [go_sem, *]); have ca4_3 : w4.cell? ⟨w.heap.size, 3, none⟩ = some (.int .i64 (m.Thick)) := (hcw4 (w.heap.size) 3 (by first | omega | (simp only [World.size_alloc, World.size_drew, World.size_setCell, size_drewN]; omega))).trans (by simp [go_sem, *]); have oa4 : w.heap.size < w4.heap.size := (by omega)
  go_wp2_with fail
  refine (bwithin_any z 1 (m.Thick - 1) _).mono ?_
  rw [HZ.out]
  rintro e w' ⟨rfl, rfl⟩
  go_wp2_with fail; (refine (H4.out _).mono ?_; rintro e w5 ⟨rfl, hw5⟩; obtain ⟨hcw5, hfw5, hlw5, hmw5, hnw5⟩ := bcell3 hw5; have hzw5 := hw5.size; (try simp only [World.size_alloc, World.size_setCell, World.size_drew, size_drewN] at hzw5))
  have ca5_0 : w5.cell? ⟨w.heap.size, 0, none⟩ = some (.int .i64 (m.Wedge)) := (hcw5 (w.heap.size) 0 (by first | omega | (simp only [World.size_alloc, World.size_drew, World.size_setCell, size_drewN]; omega))).trans (by simp [go_sem, *]); have ca5_1 : w5.cell? ⟨w.heap.size, 1, none⟩ = some (.int .i64 (m.Metal)) := (hcw5 (w.heap.size) 1 (by first | omega | (simp only [World.size_alloc, World.size_drew, World.size_setCell, size_drewN]; omega))).trans (by simp [go_sem, *]); have ca5_2 : w5.cell? ⟨w.heap.size, 2, none⟩ = some (.int .i64 (m.Skips)) := (hcw5 (w.heap.size) 2 (by first | omega | (simp only [World.size_alloc, World.size_drew, World.size_setCell, size_drewN]; omega))).trans (by simp [go_sem, *]); have ca5_3 : w5.cell? ⟨w.heap.size, 3, none⟩ = some (.int .i64 (m.Thick)) := (hcw5 (w.heap.size) 3 (by first | omega | (simp only [World.size_alloc, World.size_drew, World.size_setCell, size_drewN]; omega))).trans (by simp [go_sem, *]); have oa5 : w.heap.size < w5.heap.size := (by omega)
  go_wp2
  go_ret
  exact ⟨rfl, by (repeat' (first | (with_reducible exact Below.refl _ _) | (with_reducible assumption) | (with_reducible refine Below.alloc ?_ ?_ _) | (with_reducible refine Below.drew ?_) | (with_reducible refine below_drewN ?_ _) | (with_reducible refine Below.setCell ?_ ?_ _) | (with_reducible refine below_step (by with_reducible assumption) ?_ ?_) | (with_reducible exact Below.size (by with_reducible assumption)) | go_size))⟩

set_option maxRecDepth 100000 in
set_option maxHeartbeats 2000000 in
theorem modes_even (m : Md) (z : Int) (w : World) (h : okM m) (hz : 1 ≤ z ∧ z ≤ m.Thick - 1) (ho : m.Skips % 2 = 0) (h4 : ¬ m.Skips = 4) :
    Calls Try.prog 8 #[.agg #[.int .i64 m.Wedge, .int .i64 m.Metal, .int .i64 m.Skips, .int .i64 m.Thick], .int .i64 z] w fun e w' => e = .returned (.bool true) ∧ Below w.heap.size w w' := by
  have K1 : ∀ W, _ := fun W => Unfolded_ok m z W h hz
  have K2 : ∀ W, _ := fun W => rcheckMode_any m W
  have K3 : ∀ W, _ := fun W => checkMode_any m W
  have K4 : ∀ W, _ := fun W => runfolded_any m z W h hz
  rw [mE_zero.2 h] at K2 K3
  have hm : okM ⟨m.Wedge, m.Metal, m.Skips + 1, m.Thick⟩ := ⟨h.1, h.2.1, by show 0 ≤ m.Skips + 1 ∧ m.Skips + 1 ≤ 4; have := h.2.2.1; omega, h.2.2.2⟩
  have K5 : ∀ W, _ := fun W => Unfolded_ok ⟨m.Wedge, m.Metal, m.Skips + 1, m.Thick⟩ z W hm hz
  have hs2 := st_bd hm
  have hb2 := unf_bd hm hz
  simp only at hs2 hb2
  have hsum : unf m z + unf ⟨m.Wedge, m.Metal, m.Skips + 1, m.Thick⟩ z = 2 * m.Thick * (m.Skips + 1) := by
    unfold unf; simp only
    rw [if_neg (by omega), if_pos (by omega)]; grind
  have H5 := Lib.hid K5
  clear K5 hm
  have hb := unf_bd h hz
  obtain ⟨-, -, g3, g4⟩ := h
  have H1 := Lib.hid K1
  have H2 := Lib.hid K2
  have H3 := Lib.hid K3
  have H4 := Lib.hid K4
  have HZ := Lib.hid (inB_iff.2 hz)
  clear K1 K2 K3 K4 hz
  generalize unf m z = n at *
  generalize unf ⟨m.Wedge, m.Metal, m.Skips + 1, m.Thick⟩ z = n2 at *
  have t5 : (n + n2 == 2 * m.Thick * (m.Skips + 1)) = true := by simp [hsum]
  have t6 : 0 ≤ 2 * m.Thick * (m.Skips + 1) ∧ 2 * m.Thick * (m.Skips + 1) ≤ 1000000 := by omega
  clear hsum
  have t1 : (m.Skips % 2 != 0) = false := by simp [ho]
  have t3 : (m.Skips == 4) = false := by simp [h4]
  clear ho h4
  go_enter Try.func8, Try.ntmps8
  go_wp2_with fail; (refine (awake_any _).mono ?_; rintro e w1 ⟨rfl, hw1⟩; obtain ⟨hcw1, hfw1, hlw1, hmw1, hnw1⟩ := bcell3 hw1; have hzw1 := hw1.size; (try simp only [World.size_alloc, World.size_setCell, World.size_drew, size_drewN] at hzw1))
  have ca1_0 : w1.cell? ⟨w.heap.size, 0, none⟩ = some (.int .i64 (m.Wedge)) := (hcw1 (w.heap.size) 0 (by first | omega | (simp only [World.size_alloc, World.size_drew, World.size_setCell, size_drewN]; omega))).trans (by simp [go_sem, *]); have ca1_1 : w1.cell? ⟨w.heap.size, 1, none⟩ = some (.int .i64 (m.Metal)) := (hcw1 (w.heap.size) 1 (by first | omega | (simp only [World.size_alloc, World.size_drew, World.size_setCell, size_drewN]; omega))).trans (by simp [go_sem, *]); have ca1_2 : w1.cell? ⟨w.heap.size, 2, none⟩ = some (.int .i64 (m.Skips)) := (hcw1 (w.heap.size) 2 (by first | omega | (simp only [World.size_alloc, World.size_drew, World.size_setCell, size_drewN]; omega))).trans (by simp [go_sem, *]); have ca1_3 : w1.cell? ⟨w.heap.size, 3, none⟩ = some (.int .i64 (m.Thick)) := (hcw1 (w.heap.size) 3 (by first | omega | (simp only [World.size_alloc, World.size_drew, World.size_setCell, size_drewN]; omega))).trans (by simp [go_sem, *]); have oa1 : w.heap.size < w1.heap.size := (by omega)
  go_wp2_with fail; (refine (H1.out _).mono ?_; rintro e w2 ⟨rfl, hw2⟩; obtain ⟨hcw2, hfw2, hlw2, hmw2, hnw2⟩ := bcell3 hw2; have hzw2 := hw2.size; (try simp only [World.size_alloc, World.size_setCell, World.size_drew, size_drewN] at hzw2))
  have ca2_0 : w2.cell? ⟨w.heap.size, 0, none⟩ = some (.int .i64 (m.Wedge)) := (hcw2 (w.heap.size) 0 (by first | omega | (simp only [World.size_alloc, World.size_drew, World.size_setCell, size_drewN]; omega))).trans (by simp [go_sem, *]); have ca2_1 : w2.cell? ⟨w.heap.size, 1, none⟩ = some (.int .i64 (m.Metal)) := (hcw2 (w.heap.size) 1 (by first | omega | (simp only [World.size_alloc, World.size_drew, World.size_setCell, size_drewN]; omega))).trans (by simp [go_sem, *]); have ca2_2 : w2.cell? ⟨w.heap.size, 2, none⟩ = some (.int .i64 (m.Skips)) := (hcw2 (w.heap.size) 2 (by first | omega | (simp only [World.size_alloc, World.size_drew, World.size_setCell, size_drewN]; omega))).trans (by simp [go_sem, *]); have ca2_3 : w2.cell? ⟨w.heap.size, 3, none⟩ = some (.int .i64 (m.Thick)) := (hcw2 (w.heap.size) 3 (by first | omega | (simp only [World.size_alloc, World.size_drew, World.size_setCell, size_drewN]; omega))).trans (by simp [go_sem, *]); have oa2 : w.heap.size < w2.heap.size := (by omega)
  go_wp2_with fail; (refine (H2.out _).mono ?_; rintro e w3 ⟨rfl, hw3⟩; obtain ⟨hcw3, hfw3, hlw3, hmw3, hnw3⟩ := bcell3 hw3; have hzw3 := hw3.size; (try simp only [World.size_alloc, World.size_setCell, World.size_drew, size_drewN] at hzw3))
  have ca3_0 : w3.cell? ⟨w.heap.size, 0, none⟩ = some (.int .i64 (m.Wedge)) := (hcw3 (w.heap.size) 0 (by first | omega | (simp only [World.size_alloc, World.size_drew, World.size_setCell, size_drewN]; omega))).trans (by simp [go_sem, *]); have ca3_1 : w3.cell? ⟨w.heap.size, 1, none⟩ = some (.int .i64 (m.Metal)) := (hcw3 (w.heap.size) 1 (by first | omega | (simp only [World.size_alloc, World.size_drew, World.size_setCell, size_drewN]; omega))).trans (by simp [go_sem, *]); have ca3_2 : w3.cell? ⟨w.heap.size, 2, none⟩ = some (.int .i64 (m.Skips)) := (hcw3 (w.heap.size) 2 (by first | omega | (simp only [World.size_alloc, World.size_drew, World.size_setCell, size_drewN]; omega))).trans (by simp [go_sem, *]); have ca3_3 : w3.cell? ⟨w.heap.size, 3, none⟩ = some (.int .i64 (m.Thick)) := (hcw3 (w.heap.size) 3 (by first | omega | (simp only [World.size_alloc, World.size_drew, World.size_setCell, size_drewN]; omega))).trans (by simp [go_sem, *]); have oa3 : w.heap.size < w3.heap.size := (by omega)
  go_wp2_with fail; (refine (H3.out _).mono ?_; rintro e w4 ⟨rfl, hw4⟩; obtain ⟨hcw4, hfw4, hlw4, hmw4, hnw4⟩ := bcell3 hw4; have hzw4 := hw4.size; (try simp only [World.size_alloc, World.size_setCell, World.size_drew, size_drewN] at hzw4))
  have ca4_0 : w4.cell? ⟨w.heap.size, 0, none⟩ = some (.int .i64 (m.Wedge)) := (hcw4 (w.heap.size) 0 (by first | omega | (simp only [World.size_alloc, World.size_drew, World.size_setCell, size_drewN]; omega))).trans (by simp [go_sem, *]); have ca4_1 : w4.cell? ⟨w.heap.size, 1, none⟩ = some (.int .i64 (m.Metal)) := (hcw4 (w.heap.size) 1 (by first | omega | (simp only [World.size_alloc, World.size_drew, World.size_setCell, size_drewN]; omega))).trans (by simp [go_sem, *]); have ca4_2 : w4.cell? ⟨w.heap.size, 2, none⟩ = some (.int .i64 (m.Skips)) := (hcw4 (w.heap.size) 2 (by first | omega | (simp only [World.size_alloc, World.size_drew, World.size_setCell, size_drewN]; omega))).trans (by simp [go_sem, *]); have ca4_3 : w4.cell? ⟨w.heap.size, 3, none⟩ = some (.int .i64 (m.Thick)) := (hcw4 (w.heap.size) 3 (by first | omega | (simp only [World.size_alloc, World.size_drew, World.size_setCell, size_drewN]; omega))).trans (by simp [go_sem, *]); have oa4 : w.heap.size < w4.heap.size := (by omega)
  go_wp2_with fail
  refine (bwithin_any z 1 (m.Thick - 1) _).mono ?_
  rw [HZ.out]
  rintro e w' ⟨rfl, rfl⟩
  go_wp2_with fail; (refine (H4.out _).mono ?_; rintro e w5 ⟨rfl, hw5⟩; obtain ⟨hcw5, hfw5, hlw5, hmw5, hnw5⟩ := bcell3 hw5; have hzw5 := hw5.size; (try simp only [World.size_alloc, World.size_setCell, World.size_drew, size_drewN] at hzw5))
  have ca5_0 : w5.cell? ⟨w.heap.size, 0, none⟩ = some (.int .i64 (m.Wedge)) := (hcw5 (w.heap.size) 0 (by first | omega | (simp only [World.size_alloc, World.size_drew, World.size_setCell, size_drewN]; omega))).trans (by simp [go_sem, *]); have ca5_1 : w5.cell? ⟨w.heap.size, 1, none⟩ = some (.int .i64 (m.Metal)) := (hcw5 (w.heap.size) 1 (by first | omega | (simp only [World.size_alloc, World.size_drew, World.size_setCell, size_drewN]; omega))).trans (by simp [go_sem, *]); have ca5_2 : w5.cell? ⟨w.heap.size, 2, none⟩ = some (.int .i64 (m.Skips)) := (hcw5 (w.heap.size) 2 (by first | omega | (simp only [World.size_alloc, World.size_drew, World.size_setCell, size_drewN]; omega))).trans (by simp [go_sem, *]); have ca5_3 : w5.cell? ⟨w.heap.size, 3, none⟩ = some (.int .i64 (m.Thick)) := (hcw5 (w.heap.size) 3 (by first | omega | (simp only [World.size_alloc, World.size_drew, World.size_setCell, size_drewN]; omega))).trans (by simp [go_sem, *]); have oa5 : w.heap.size < w5.heap.size := (by omega)
  have f5 := bel_fz hw5 w.heap.size 2 (by first | omega | (simp only [World.size_alloc]; omega)) (by simp [go_sem, *])
  go_wp2_with fail; (refine (H5.out _).mono ?_; rintro e w6 ⟨rfl, hw6⟩; obtain ⟨hcw6, hfw6, hlw6, hmw6, hnw6⟩ := bcell3 hw6; have hzw6 := hw6.size; (try simp only [World.size_alloc, World.size_setCell, World.size_drew, size_drewN] at hzw6))
  have ca6_0 : w6.cell? ⟨w.heap.size, 0, none⟩ = some (.int .i64 (m.Wedge)) := (hcw6 (w.heap.size) 0 (by first | omega | (simp only [World.size_alloc, World.size_drew, World.size_setCell, size_drewN]; omega))).trans (by simp [go_sem, *]); have ca6_1 : w6.cell? ⟨w.heap.size, 1, none⟩ = some (.int .i64 (m.Metal)) := (hcw6 (w.heap.size) 1 (by first | omega | (simp only [World.size_alloc, World.size_drew, World.size_setCell, size_drewN]; omega))).trans (by simp [go_sem, *]); have ca6_2 : w6.cell? ⟨w.heap.size, 2, none⟩ = some (.int .i64 (m.Skips + 1)) := (hcw6 (w.heap.size) 2 (by first | omega | (simp only [World.size_alloc, World.size_drew, World.size_setCell, size_drewN]; omega))).trans (by simp [go_sem, *]); have ca6_3 : w6.cell? ⟨w.heap.size, 3, none⟩ = some (.int .i64 (m.Thick)) := (hcw6 (w.heap.size) 3 (by first | omega | (simp only [World.size_alloc, World.size_drew, World.size_setCell, size_drewN]; omega))).trans (by simp [go_sem, *]); have oa6 : w.heap.size < w6.heap.size := (by omega)
  go_wp2
  go_ret
  exact ⟨rfl, by (repeat' (first | (with_reducible exact Below.refl _ _) | (with_reducible assumption) | (with_reducible refine Below.alloc ?_ ?_ _) | (with_reducible refine Below.drew ?_) | (with_reducible refine below_drewN ?_ _) | (with_reducible refine Below.setCell ?_ ?_ _) | (with_reducible refine below_step (by with_reducible assumption) ?_ ?_) | (with_reducible exact Below.size (by with_reducible assumption)) | go_size))⟩

theorem rayModes_any (m : Md) (z : Int) (w : World) :
    Calls Try.prog 8 #[.agg #[.int .i64 m.Wedge, .int .i64 m.Metal, .int .i64 m.Skips, .int .i64 m.Thick], .int .i64 z] w fun e w' => e = .returned (.bool true) ∧ Below w.heap.size w w' := by
  by_cases h : mE m = 0
  · have ho := mE_zero.1 h
    cases hz : inB z 1 (m.Thick - 1)
    · exact modes_b m z w ho hz
    · have hz2 := inB_iff.1 hz
      by_cases h1 : m.Skips % 2 = 1
      · exact modes_odd m z w ho hz2 h1
      · by_cases h4 : m.Skips = 4
        · exact modes_four m z w ho hz2 h4
        · exact modes_even m z w ho hz2 (by omega) h4
  · exact modes_a m z w h
end Go.Proofs.Ytegdokmgplancaa
