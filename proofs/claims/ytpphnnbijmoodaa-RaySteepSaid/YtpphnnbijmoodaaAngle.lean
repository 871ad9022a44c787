/-
  ANGLES of package ray: the error of a direction, Passes and BehindSquare.
-/
import Derived.Test.YtpphnnbijmoodaaCrit
import Derived.Test.YtpphnnbijmoodaaCross
set_option linter.unusedVariables false
set_option linter.unusedSimpArgs false
namespace Go.Proofs.Ytpphnnbijmoodaa
open Go.RowKit

/-- the error of a direction -/
def dE (a b : Int) : Int := unl (inB a (-1000) 1000 && inB b 1 1000) 2
def aE (a b f s : Int) : Int := frst [dE a b, unl (inB f 500 10000) 2, unl (inB s 500 10000) 2]
def okA (a b f s : Int) : Prop := ((-1000 ≤ a ∧ a ≤ 1000) ∧ (1 ≤ b ∧ b ≤ 1000)) ∧ (500 ≤ f ∧ f ≤ 10000) ∧ (500 ≤ s ∧ s ≤ 10000)
theorem aE_zero {a b f s : Int} : aE a b f s = 0 ↔ okA a b f s := by
  unfold aE dE okA
  rw [frst_zero]
  simp only [List.mem_cons, List.not_mem_nil, or_false, forall_eq_or_imp, forall_eq, unl_zero (show (2 : Int) ≠ 0 by decide), Bool.and_eq_true, inB_iff]
/-- the sine squared behind the plane, not in lowest terms -/
def bN (a s : Int) : Int := a * a * s * s
def bD (a b f : Int) : Int := (a * a + b * b) * f * f
theorem b_bd {a b f s : Int} (h : okA a b f s) : (0 ≤ a * a ∧ a * a ≤ 1000000) ∧ (1 ≤ b * b ∧ b * b ≤ 1000000) ∧ (0 ≤ a * a * s ∧ a * a * s ≤ 10000000000) ∧ (0 ≤ bN a s ∧ bN a s ≤ 100000000000000) ∧ (1 ≤ (a * a + b * b) * f ∧ (a * a + b * b) * f ≤ 20000000000) ∧ (1 ≤ bD a b f ∧ bD a b f ≤ 200000000000000) := by
  obtain ⟨⟨h1, h2⟩, h3, h4⟩ := h
  have a1 := sq_nonneg a
  have a2 : a * a ≤ 1000 * 1000 := sqle h1
  have b1 : 1 * 1 ≤ b * b := sq_mono (by omega) (by omega)
  have b2 : b * b ≤ 1000 * 1000 := sq_mono (by omega) (by omega)
  have c1 := prod_bd (a := a * a) (b := s) (A := 1000000) (B := 10000) (by omega) (by omega) (by omega) (by omega)
  have c2 := prod_bd (a := a * a * s) (b := s) (A := 10000000000) (B := 10000) (by omega) (by omega) (by omega) (by omega)
  have d1 := prod_bd (a := a * a + b * b) (b := f) (A := 2000000) (B := 10000) (by omega) (by omega) (by omega) (by omega)
  have d2 := prod_bd (a := (a * a + b * b) * f) (b := f) (A := 20000000000) (B := 10000) (by omega) (by omega) (by omega) (by omega)
  have e1 : 1 * 1 ≤ (a * a + b * b) * f := mulle (by omega) (by omega) (by omega) (by omega)
  have e2 : 1 * 1 ≤ (a * a + b * b) * f * f := mulle (by omega) (by omega) (by omega) (by omega)
  unfold bN bD
  omega

theorem dE_two (a b : Int) : frst [unl (inB a (-1000) 1000) 2, unl (inB b 1 1000) 2] = dE a b := by
  unfold dE
  cases inB a (-1000) 1000 <;> cases inB b 1 1000 <;> rfl
set_option maxRecDepth 100000 in
set_option maxHeartbeats 1000000 in
theorem directionError_any (a b : Int) (w : World) :
    Calls Try.prog 109 #[.agg #[.int .i64 a, .int .i64 b]] w fun e w' => e = .returned (.int .i64 (dE a b)) ∧ Below w.heap.size w w' := by
  have HE := Lib.hid (dE_two a b)
  go_enter Try.func109, Try.ntmps109
  go_wp2
  obtain ⟨W, hW⟩ : ∃ W, W = w.alloc (.cells #[.int .i64 a, .int .i64 b] 96) := ⟨_, rfl⟩
  rw [← hW]
  have hB := hW ▸ (show Below w.heap.size w (w.alloc (.cells #[.int .i64 a, .int .i64 b] 96)) by (repeat' (first | (with_reducible exact Below.refl _ _) | (with_reducible assumption) | (with_reducible refine Below.alloc ?_ ?_ _) | (with_reducible refine Below.drew ?_) | (with_reducible refine below_drewN ?_ _) | (with_reducible refine Below.setCell ?_ ?_ _) | (with_reducible refine below_step (by with_reducible assumption) ?_ ?_) | (with_reducible exact Below.size (by with_reducible assumption)) | go_size)))
  have s0 : W.cell? ⟨w.heap.size, 0, none⟩ = some (.int .i64 a) := by rw [hW]; exact cell_fresh _ _ _ _ _ _ rfl rfl
  have s1 : W.cell? ⟨w.heap.size, 1, none⟩ = some (.int .i64 b) := by rw [hW]; exact cell_fresh _ _ _ _ _ _ rfl rfl
  clear hW
  refine wp_region_still_tail 6 (by kernel_rfl) (by kernel_rfl) ?_
  change wpStill _ _ W.drew _ _ _
  simp only [List.take_succ_cons, List.take_zero, List.drop_succ_cons, List.drop_zero]
  repeat (first | still_step | still_call (still_of (rangeError_any _ _ _ _)))
  refine wpStill_nil ?_
  change wpList _ _ _ _ _ W.drew
  go_wp2_with fail
  apply Calls.mono
  focus ((apply first2 <;> exact cell_fresh _ _ _ _ _ _ rfl rfl); done)
  rw [HE.out]
  rintro e w1 ⟨rfl, rfl⟩
  go_wp2
  go_ret
  exact ⟨rfl, by (repeat' (first | (with_reducible exact Below.refl _ _) | (with_reducible assumption) | (with_reducible refine Below.alloc ?_ ?_ _) | (with_reducible refine Below.drew ?_) | (with_reducible refine below_drewN ?_ _) | (with_reducible refine Below.setCell ?_ ?_ _) | (with_reducible refine below_step (by with_reducible assumption) ?_ ?_) | (with_reducible exact Below.size (by with_reducible assumption)) | go_size))⟩

set_option maxRecDepth 100000 in
set_option maxHeartbeats 1000000 in
theorem behind_any (a b f s : Int) (w : World) (h : okA a b f s) :
    Calls Try.prog 110 #[.agg #[.int .i64 a, .int .i64 b], .int .i64 f, .int .i64 s] w fun e w' => e = .returned (.tuple #[.int .i64 (bN a s), .int .i64 (bD a b f)]) ∧ Below w.heap.size w w' := by
  obtain ⟨h1, h2, h3, h4, h5, h6⟩ := b_bd h
  have HN := Lib.hid (show bN a s = a * a * s * s from rfl)
  have HD := Lib.hid (show bD a b f = (a * a + b * b) * f * f from rfl)
  unfold bN at h4
  unfold bD at h6
  clear h
  go_enter Try.func110, Try.ntmps110
  go_wp2
  go_quiet (fail)
  go_wp2
  go_ret2
  exact ⟨by rw [HN.out, HD.out]; rfl, by (repeat' (first | (with_reducible exact Below.refl _ _) | (with_reducible assumption) | (with_reducible refine Below.alloc ?_ ?_ _) | (with_reducible refine Below.drew ?_) | (with_reducible refine below_drewN ?_ _) | (with_reducible refine Below.setCell ?_ ?_ _) | (with_reducible refine below_step (by with_reducible assumption) ?_ ?_) | (with_reducible exact Below.size (by with_reducible assumption)) | go_size))⟩

set_option maxRecDepth 100000 in
set_option maxHeartbeats 1000000 in
theorem passes_err (a b f s : Int) (w : World) (h : ¬ aE a b f s = 0) :
    Calls Try.prog 65 #[.agg #[.int .i64 a, .int .i64 b], .int .i64 f, .int .i64 s] w fun e w' => e = .returned (.tuple #[.bool false, .int .i64 (aE a b f s)]) ∧ Below w.heap.size w w' := by
  have K1 := Lib.hid (fun W => directionError_any a b W)
  have hf : frst [dE a b, unl (inB f 500 10000) 2, unl (inB s 500 10000) 2] = aE a b f s := rfl
  generalize aE a b f s = g at *
  generalize dE a b = e1 at *
  have HF := Lib.hid hf
  clear hf
  go_enter Try.func65, Try.ntmps65
  go_wp2_with fail; (refine (K1.out _).mono ?_; rintro e w1 ⟨rfl, hw1⟩; obtain ⟨hcw1, hfw1, hlw1, hmw1, hnw1⟩ := bcell3 hw1; have hzw1 := hw1.size; (try simp only [World.size_alloc, World.size_setCell, World.size_drew, size_drewN] at hzw1))
  go_wp2_with (first | (go_at_call 80; refine (speedError_any _ _).mono ?_; rintro e w' ⟨rfl, rfl⟩) | (go_at_call 77; refine (first3 e1 (unl (inB f 500 10000) 2) (unl (inB s 500 10000) 2) _ _ (cell_fresh _ _ _ _ _ _ (by simp) rfl) (cell_fresh _ _ _ _ _ _ (by simp) rfl) (cell_fresh _ _ _ _ _ _ (by simp) rfl)).mono ?_; rw [HF.out]; rintro e w' ⟨rfl, rfl⟩))
  go_ret2
  exact ⟨rfl, by (repeat' (first | (with_reducible exact Below.refl _ _) | (with_reducible assumption) | (with_reducible refine Below.alloc ?_ ?_ _) | (with_reducible refine Below.drew ?_) | (with_reducible refine below_drewN ?_ _) | (with_reducible refine Below.setCell ?_ ?_ _) | (with_reducible refine below_step (by with_reducible assumption) ?_ ?_) | (with_reducible exact Below.size (by with_reducible assumption)) | go_size))⟩
set_option maxRecDepth 100000 in
set_option maxHeartbeats 1000000 in
theorem passes_ok (a b f s : Int) (w : World) (h : okA a b f s) :
    Calls Try.prog 65 #[.agg #[.int .i64 a, .int .i64 b], .int .i64 f, .int .i64 s] w fun e w' => e = .returned (.tuple #[.bool (decide (bN a s ≤ bD a b f)), .int .i64 0]) ∧ Below w.heap.size w w' := by
  have K1 : ∀ W, _ := fun W => directionError_any a b W
  have H2 := Lib.hid (fun W => behind_any a b f s W h)
  have hf : frst [dE a b, unl (inB f 500 10000) 2, unl (inB s 500 10000) 2] = 0 := aE_zero.2 h
  clear h
  generalize dE a b = e1 at *
  generalize bN a s = n at *
  generalize bD a b f = d at *
  have K1 := Lib.hid K1
  have HF := Lib.hid hf
  clear hf
  go_enter Try.func65, Try.ntmps65
  go_wp2_with fail; (refine (K1.out _).mono ?_; rintro e w1 ⟨rfl, hw1⟩; obtain ⟨hcw1, hfw1, hlw1, hmw1, hnw1⟩ := bcell3 hw1; have hzw1 := hw1.size; (try simp only [World.size_alloc, World.size_setCell, World.size_drew, size_drewN] at hzw1))
  have ca1_0 : w1.cell? ⟨w.heap.size, 0, none⟩ = some (.int .i64 (a)) := (hcw1 (w.heap.size) (0) (by first | omega | (simp only [World.size_alloc, World.size_drew, World.size_setCell, size_drewN]; omega))).trans (by simp [go_sem, *]); have ca1_1 : w1.cell? ⟨w.heap.size, 1, none⟩ = some (.int .i64 (b)) := (hcw1 (w.heap.size) (1) (by first | omega | (simp only [World.size_alloc, World.size_drew, World.size_setCell, size_drewN]; omega))).trans (by simp [go_sem, *]); have oa1 : w.heap.size < w1.heap.size := (by omega)
  go_wp2_with (first | (go_at_call 80; refine (speedError_any _ _).mono ?_; rintro e w' ⟨rfl, rfl⟩) | (go_at_call 77; refine (first3 e1 (unl (inB f 500 10000) 2) (unl (inB s 500 10000) 2) _ _ (cell_fresh _ _ _ _ _ _ (by simp) rfl) (cell_fresh _ _ _ _ _ _ (by simp) rfl) (cell_fresh _ _ _ _ _ _ (by simp) rfl)).mono ?_; rw [HF.out]; rintro e w' ⟨rfl, rfl⟩) | (go_at_call 110; refine (H2.out _).mono ?_; rintro e w2 ⟨rfl, hw2⟩; obtain ⟨hcw2, hfw2, hlw2, hmw2, hnw2⟩ := bcell3 hw2; have hzw2 := hw2.size; (try simp only [World.size_alloc, World.size_setCell, World.size_drew, size_drewN] at hzw2)))
  go_ret2
  exact ⟨rfl, by (repeat' (first | (with_reducible exact Below.refl _ _) | (with_reducible assumption) | (with_reducible refine Below.alloc ?_ ?_ _) | (with_reducible refine Below.drew ?_) | (with_reducible refine below_drewN ?_ _) | (with_reducible refine Below.setCell ?_ ?_ _) | (with_reducible refine below_step (by with_reducible assumption) ?_ ?_) | (with_reducible exact Below.size (by with_reducible assumption)) | go_size))⟩
set_option maxRecDepth 100000 in
set_option maxHeartbeats 1000000 in
theorem behindSq_err (a b f s : Int) (w : World) (h : ¬ aE a b f s = 0) :
    Calls Try.prog 66 #[.agg #[.int .i64 a, .int .i64 b], .int .i64 f, .int .i64 s] w fun e w' => e = .returned (.tuple #[.agg #[.int .i64 0, .int .i64 0], .int .i64 (aE a b f s)]) ∧ Below w.heap.size w w' := by
  have H1 := Lib.hid (fun W => passes_err a b f s W h)
  have hf : frst [aE a b f s, unl false 12] = aE a b f s := by rw [frst, if_neg h]
  generalize aE a b f s = g at *
  have HF := Lib.hid hf
  clear hf
  go_enter Try.func66, Try.ntmps66
  go_wp2_with fail; (refine (H1.out _).mono ?_; rintro e w1 ⟨rfl, hw1⟩; obtain ⟨hcw1, hfw1, hlw1, hmw1, hnw1⟩ := bcell3 hw1; have hzw1 := hw1.size; (try simp only [World.size_alloc, World.size_setCell, World.size_drew, size_drewN] at hzw1))
  have r1_0 : w1.cell? ⟨w.heap.size + 1, 0, none⟩ = some (.int .i64 0) := (hcw1 (w.heap.size + 1) 0 (by first | omega | (simp only [World.size_alloc, World.size_drew, World.size_setCell, size_drewN]; omega))).trans (by simp [go_sem, *]); have p1_0 : w1.frozen? ⟨w.heap.size + 1, 0, none⟩ = false := (hfw1 (w.heap.size + 1) 0 (by first | omega | (simp only [World.size_alloc, World.size_drew, World.size_setCell, size_drewN]; omega))).trans (by simp [go_sem, *]); have r1_1 : w1.cell? ⟨w.heap.size + 1, 1, none⟩ = some (.int .i64 0) := (hcw1 (w.heap.size + 1) 1 (by first | omega | (simp only [World.size_alloc, World.size_drew, World.size_setCell, size_drewN]; omega))).trans (by simp [go_sem, *]); have p1_1 : w1.frozen? ⟨w.heap.size + 1, 1, none⟩ = false := (hfw1 (w.heap.size + 1) 1 (by first | omega | (simp only [World.size_alloc, World.size_drew, World.size_setCell, size_drewN]; omega))).trans (by simp [go_sem, *]); have o1 : w.heap.size + 1 < w1.heap.size := (by omega)
  go_wp2_with (first | (go_at_call 88; refine (unless_any _ _ _).mono ?_; rintro e w' ⟨rfl, rfl⟩) | (go_at_call 77; refine (first2 g (unl false 12) _ _ (cell_fresh _ _ _ _ _ _ (by simp) rfl) (cell_fresh _ _ _ _ _ _ (by simp) rfl)).mono ?_; rw [HF.out]; rintro e w' ⟨rfl, rfl⟩))
  refine bodyPost_ret (by simp [results, Try.results66, go_sem, *]; rfl) rfl ?_
  exact ⟨rfl, by (repeat' (first | (with_reducible exact Below.refl _ _) | (with_reducible assumption) | (with_reducible refine Below.alloc ?_ ?_ _) | (with_reducible refine Below.drew ?_) | (with_reducible refine below_drewN ?_ _) | (with_reducible refine Below.setCell ?_ ?_ _) | (with_reducible refine below_step (by with_reducible assumption) ?_ ?_) | (with_reducible exact Below.size (by with_reducible assumption)) | go_size))⟩
set_option maxRecDepth 100000 in
set_option maxHeartbeats 1000000 in
theorem behindSq_none (a b f s : Int) (w : World) (h : okA a b f s) (hp : ¬ bN a s ≤ bD a b f) :
    Calls Try.prog 66 #[.agg #[.int .i64 a, .int .i64 b], .int .i64 f, .int .i64 s] w fun e w' => e = .returned (.tuple #[.agg #[.int .i64 0, .int .i64 0], .int .i64 12]) ∧ Below w.heap.size w w' := by
  have K1 : ∀ W, _ := fun W => passes_ok a b f s W h
  rw [decide_eq_false hp] at K1
  have H1 := Lib.hid K1
  have HF := Lib.hid (show frst [0, unl false 12] = 12 from rfl)
  clear K1 h hp
  go_enter Try.func66, Try.ntmps66
  go_wp2_with fail; (refine (H1.out _).mono ?_; rintro e w1 ⟨rfl, hw1⟩; obtain ⟨hcw1, hfw1, hlw1, hmw1, hnw1⟩ := bcell3 hw1; have hzw1 := hw1.size; (try simp only [World.size_alloc, World.size_setCell, World.size_drew, size_drewN] at hzw1))
  have r1_0 : w1.cell? ⟨w.heap.size + 1, 0, none⟩ = some (.int .i64 0) := (hcw1 (w.heap.size + 1) 0 (by first | omega | (simp only [World.size_alloc, World.size_drew, World.size_setCell, size_drewN]; omega))).trans (by simp [go_sem, *]); have p1_0 : w1.frozen? ⟨w.heap.size + 1, 0, none⟩ = false := (hfw1 (w.heap.size + 1) 0 (by first | omega | (simp only [World.size_alloc, World.size_drew, World.size_setCell, size_drewN]; omega))).trans (by simp [go_sem, *]); have r1_1 : w1.cell? ⟨w.heap.size + 1, 1, none⟩ = some (.int .i64 0) := (hcw1 (w.heap.size + 1) 1 (by first | omega | (simp only [World.size_alloc, World.size_drew, World.size_setCell, size_drewN]; omega))).trans (by simp [go_sem, *]); have p1_1 : w1.frozen? ⟨w.heap.size + 1, 1, none⟩ = false := (hfw1 (w.heap.size + 1) 1 (by first | omega | (simp only [World.size_alloc, World.size_drew, World.size_setCell, size_drewN]; omega))).trans (by simp [go_sem, *]); have o1 : w.heap.size + 1 < w1.heap.size := (by omega)
  go_wp2_with (first | (go_at_call 88; refine (unless_any _ _ _).mono ?_; rintro e w' ⟨rfl, rfl⟩) | (go_at_call 77; refine (first2 0 (unl false 12) _ _ (cell_fresh _ _ _ _ _ _ (by simp) rfl) (cell_fresh _ _ _ _ _ _ (by simp) rfl)).mono ?_; rw [HF.out]; rintro e w' ⟨rfl, rfl⟩))
  refine bodyPost_ret (by simp [results, Try.results66, go_sem, *]; rfl) rfl ?_
  exact ⟨rfl, by (repeat' (first | (with_reducible exact Below.refl _ _) | (with_reducible assumption) | (with_reducible refine Below.alloc ?_ ?_ _) | (with_reducible refine Below.drew ?_) | (with_reducible refine below_drewN ?_ _) | (with_reducible refine Below.setCell ?_ ?_ _) | (with_reducible refine below_step (by with_reducible assumption) ?_ ?_) | (with_reducible exact Below.size (by with_reducible assumption)) | go_size))⟩
/-- the sine squared behind the plane, in lowest terms -/
def sN (a b f s : Int) : Int := bN a s / gcdR (bN a s) (bD a b f)
def sD (a b f s : Int) : Int := bD a b f / gcdR (bN a s) (bD a b f)
/-- BehindSquare of a direction that passes -/
def sqE (a b f s : Int) : Int := if sN a b f s ≤ 1000000000 ∧ sD a b f s ≤ 1000000000 then 0 else 8
def sqN (a b f s : Int) : Int := if sN a b f s ≤ 1000000000 ∧ sD a b f s ≤ 1000000000 then sN a b f s else 0
def sqD (a b f s : Int) : Int := if sN a b f s ≤ 1000000000 ∧ sD a b f s ≤ 1000000000 then sD a b f s else 0
set_option maxRecDepth 100000 in
set_option maxHeartbeats 2000000 in
theorem behindSq_ok (a b f s : Int) (w : World) (h : okA a b f s) (hp : bN a s ≤ bD a b f) :
    Calls Try.prog 66 #[.agg #[.int .i64 a, .int .i64 b], .int .i64 f, .int .i64 s] w fun e w' => e = .returned (.tuple #[.agg #[.int .i64 (sqN a b f s), .int .i64 (sqD a b f s)], .int .i64 (sqE a b f s)]) ∧ Below w.heap.size w w' := by
  have bb := b_bd h
  have K1 : ∀ W, _ := fun W => passes_ok a b f s W h
  rw [decide_eq_true hp] at K1
  have H1 := Lib.hid K1
  have H2 := Lib.hid (fun W => behind_any a b f s W h)
  have H3 : Hid (∀ W, Calls Try.prog 108 #[.int .i64 (bN a s), .int .i64 (bD a b f)] W fun e w' => e = .returned (.agg #[.int .i64 (sN a b f s), .int .i64 (sD a b f s)]) ∧ Below W.heap.size W w') := Lib.hid (fun W => lowest_any (bN a s) (bD a b f) W (by omega) (by omega))
  have HF := Lib.hid (show frst [0, unl true 12] = 0 from rfl)
  have E1 := Lib.hid (show sqE a b f s = if sN a b f s ≤ 1000000000 ∧ sD a b f s ≤ 1000000000 then 0 else 8 from rfl)
  have E2 := Lib.hid (show sqN a b f s = if sN a b f s ≤ 1000000000 ∧ sD a b f s ≤ 1000000000 then sN a b f s else 0 from rfl)
  have E3 := Lib.hid (show sqD a b f s = if sN a b f s ≤ 1000000000 ∧ sD a b f s ≤ 1000000000 then sD a b f s else 0 from rfl)
  clear K1 h hp bb
  generalize sN a b f s = x at *
  generalize sD a b f s = y at *
  generalize bN a s = n at *
  generalize bD a b f = d at *
  have start : (x ≤ 1000000000 ∧ y ≤ 1000000000) ∨ (¬ x ≤ 1000000000) ∨ (x ≤ 1000000000 ∧ ¬ y ≤ 1000000000) := by omega
  rcases start with ⟨p1, p2⟩ | p1 | ⟨p1, p2⟩
  all_goals
    first | rw [if_pos (by omega)] at E1 E2 E3 | rw [if_neg (by omega)] at E1 E2 E3
    go_enter Try.func66, Try.ntmps66
    go_wp2_with fail; (refine (H1.out _).mono ?_; rintro e w1 ⟨rfl, hw1⟩; obtain ⟨hcw1, hfw1, hlw1, hmw1, hnw1⟩ := bcell3 hw1; have hzw1 := hw1.size; (try simp only [World.size_alloc, World.size_setCell, World.size_drew, size_drewN] at hzw1))
    have ca1_0 : w1.cell? ⟨w.heap.size, 0, none⟩ = some (.int .i64 (a)) := (hcw1 (w.heap.size) (0) (by first | omega | (simp only [World.size_alloc, World.size_drew, World.size_setCell, size_drewN]; omega))).trans (by simp [go_sem, *]); have ca1_1 : w1.cell? ⟨w.heap.size, 1, none⟩ = some (.int .i64 (b)) := (hcw1 (w.heap.size) (1) (by first | omega | (simp only [World.size_alloc, World.size_drew, World.size_setCell, size_drewN]; omega))).trans (by simp [go_sem, *]); have oa1 : w.heap.size < w1.heap.size := (by omega)
    have r1_0 : w1.cell? ⟨w.heap.size + 1, 0, none⟩ = some (.int .i64 0) := (hcw1 (w.heap.size + 1) 0 (by first | omega | (simp only [World.size_alloc, World.size_drew, World.size_setCell, size_drewN]; omega))).trans (by simp [go_sem, *]); have p1_0 : w1.frozen? ⟨w.heap.size + 1, 0, none⟩ = false := (hfw1 (w.heap.size + 1) 0 (by first | omega | (simp only [World.size_alloc, World.size_drew, World.size_setCell, size_drewN]; omega))).trans (by simp [go_sem, *]); have r1_1 : w1.cell? ⟨w.heap.size + 1, 1, none⟩ = some (.int .i64 0) := (hcw1 (w.heap.size + 1) 1 (by first | omega | (simp only [World.size_alloc, World.size_drew, World.size_setCell, size_drewN]; omega))).trans (by simp [go_sem, *]); have p1_1 : w1.frozen? ⟨w.heap.size + 1, 1, none⟩ = false := (hfw1 (w.heap.size + 1) 1 (by first | omega | (simp only [World.size_alloc, World.size_drew, World.size_setCell, size_drewN]; omega))).trans (by simp [go_sem, *]); have o1 : w.heap.size + 1 < w1.heap.size := (by omega)
    go_wp2_with (first | (go_at_call 88; refine (unless_any _ _ _).mono ?_; rintro e w' ⟨rfl, rfl⟩) | (go_at_call 77; refine (first2 0 (unl true 12) _ _ (cell_fresh _ _ _ _ _ _ (by simp) rfl) (cell_fresh _ _ _ _ _ _ (by simp) rfl)).mono ?_; rw [HF.out]; rintro e w' ⟨rfl, rfl⟩) | (go_at_call 110; fail))
    refine (H2.out _).mono ?_
    rintro e w2 ⟨rfl, hw2⟩
    obtain ⟨hcw2, hfw2, hlw2, hmw2, hnw2⟩ := bcell3 hw2
    have hzw2 := hw2.size
    try simp only [World.size_alloc] at hzw2
    have r2_0 : w2.cell? ⟨w.heap.size + 1, 0, none⟩ = some (.int .i64 0) := (hcw2 (w.heap.size + 1) 0 (by first | omega | (simp only [World.size_alloc, World.size_drew, World.size_setCell, size_drewN]; omega))).trans (by simp [go_sem, *]); have p2_0 : w2.frozen? ⟨w.heap.size + 1, 0, none⟩ = false := (hfw2 (w.heap.size + 1) 0 (by first | omega | (simp only [World.size_alloc, World.size_drew, World.size_setCell, size_drewN]; omega))).trans (by simp [go_sem, *]); have r2_1 : w2.cell? ⟨w.heap.size + 1, 1, none⟩ = some (.int .i64 0) := (hcw2 (w.heap.size + 1) 1 (by first | omega | (simp only [World.size_alloc, World.size_drew, World.size_setCell, size_drewN]; omega))).trans (by simp [go_sem, *]); have p2_1 : w2.frozen? ⟨w.heap.size + 1, 1, none⟩ = false := (hfw2 (w.heap.size + 1) 1 (by first | omega | (simp only [World.size_alloc, World.size_drew, World.size_setCell, size_drewN]; omega))).trans (by simp [go_sem, *]); have o2 : w.heap.size + 1 < w2.heap.size := (by omega)
    go_wp2_with fail; (refine (H3.out _).mono ?_; rintro e w3 ⟨rfl, hw3⟩; obtain ⟨hcw3, hfw3, hlw3, hmw3, hnw3⟩ := bcell3 hw3; have hzw3 := hw3.size; (try simp only [World.size_alloc, World.size_setCell, World.size_drew, size_drewN] at hzw3))
    have r3_0 : w3.cell? ⟨w.heap.size + 1, 0, none⟩ = some (.int .i64 0) := (hcw3 (w.heap.size + 1) 0 (by first | omega | (simp only [World.size_alloc, World.size_drew, World.size_setCell, size_drewN]; omega))).trans (by simp [go_sem, *]); have p3_0 : w3.frozen? ⟨w.heap.size + 1, 0, none⟩ = false := (hfw3 (w.heap.size + 1) 0 (by first | omega | (simp only [World.size_alloc, World.size_drew, World.size_setCell, size_drewN]; omega))).trans (by simp [go_sem, *]); have r3_1 : w3.cell? ⟨w.heap.size + 1, 1, none⟩ = some (.int .i64 0) := (hcw3 (w.heap.size + 1) 1 (by first | omega | (simp only [World.size_alloc, World.size_drew, World.size_setCell, size_drewN]; omega))).trans (by simp [go_sem, *]); have p3_1 : w3.frozen? ⟨w.heap.size + 1, 1, none⟩ = false := (hfw3 (w.heap.size + 1) 1 (by first | omega | (simp only [World.size_alloc, World.size_drew, World.size_setCell, size_drewN]; omega))).trans (by simp [go_sem, *]); have o3 : w.heap.size + 1 < w3.heap.size := (by omega)
    go_wp2
    refine bodyPost_ret (by simp [results, Try.results66, go_sem, *]; rfl) rfl ?_
    exact ⟨by rw [E1.out, E2.out, E3.out], by (repeat' (first | (with_reducible exact Below.refl _ _) | (with_reducible assumption) | (with_reducible refine Below.alloc ?_ ?_ _) | (with_reducible refine Below.drew ?_) | (with_reducible refine below_drewN ?_ _) | (with_reducible refine Below.setCell ?_ ?_ _) | (with_reducible refine below_step (by with_reducible assumption) ?_ ?_) | (with_reducible exact Below.size (by with_reducible assumption)) | go_size))⟩
end Go.Proofs.Ytpphnnbijmoodaa
