/-
  SYMMETRY: plain facts, and the walk of RaySymmetric.
-/
import Derived.Test.YtpphnnbijmoodaaCore
import Derived.Test.YtpphnnbijmoodaaAwake
set_option linter.unusedVariables false
set_option linter.unusedSimpArgs false
namespace Go.Proofs.Ytpphnnbijmoodaa
open Go.RowKit

theorem lsH_ge {y : Cr} {c : Int} (h : okC y) (hc : ∀ t, inC y t → c ≤ tH y t) : c ≤ lsH y := by
  have hi := (plc_is h).1
  have h1 := hc _ hi
  unfold inC at hi
  unfold lsH
  split
  · have := hc (plc y + 1) (by unfold inC; omega)
    omega
  · exact h1
theorem lsH_le {y : Cr} (h : okC y) : lsH y ≤ tH y (plc y) := by
  unfold lsH; split <;> omega
theorem in_rng {x : Cr} {t : Int} (h : okC x) (ht : inC x t) : (-200000 ≤ t - x.X1 ∧ t - x.X1 ≤ 200000) ∧ (-200000 ≤ x.X2 - t ∧ x.X2 - t ≤ 200000) := by
  obtain ⟨a1, a2, -⟩ := h
  unfold inC at ht
  omega
theorem ls_le {x : Cr} (h : okC x) : lsL x ≤ lsH x := lsH_ge h fun t ht => lsL_le h (in_rng h ht).1 (in_rng h ht).2

def swp (x : Cr) : Cr := ⟨x.X2, x.H2, x.V2, x.X1, x.H1, x.V1⟩
def mir (x : Cr) : Cr := ⟨-x.X1, x.H1, x.V1, -x.X2, x.H2, x.V2⟩
def mov (x : Cr) (b : Int) : Cr := ⟨x.X1 + b, x.H1, x.V1, x.X2 + b, x.H2, x.V2⟩
theorem ok_swp {x : Cr} (h : okC x) : okC (swp x) := by
  obtain ⟨a1, a2, a3, a4, a5, a6⟩ := h
  exact ⟨a2, a1, a4, a3, a6, a5⟩
theorem ok_mir {x : Cr} (h : okC x) : okC (mir x) := by
  obtain ⟨a1, a2, a3, a4, a5, a6⟩ := h
  exact ⟨by show -100000 ≤ -x.X1 ∧ -x.X1 ≤ 100000; omega, by show -100000 ≤ -x.X2 ∧ -x.X2 ≤ 100000; omega, a3, a4, a5, a6⟩
theorem in_swp {x : Cr} {t : Int} : inC (swp x) t ↔ inC x t := by unfold inC swp; simp only; omega
theorem in_mir {x : Cr} {t : Int} : inC (mir x) t ↔ inC x (-t) := by unfold inC mir; simp only; omega
theorem tH_swp (x : Cr) (t : Int) : tH (swp x) t = tH x t := by
  unfold tH swp
  simp only
  rw [show t - x.X2 = -(x.X2 - t) by omega, show x.X1 - t = -(t - x.X1) by omega, lHi_neg, lHi_neg]; omega
theorem tH_mir (x : Cr) (t : Int) : tH (mir x) t = tH x (-t) := by
  unfold tH mir
  simp only
  rw [show t - -x.X1 = -(-t - x.X1) by omega, show -x.X2 - t = -(x.X2 - -t) by omega, lHi_neg, lHi_neg]
theorem swp_swp (x : Cr) : swp (swp x) = x := rfl
theorem mir_mir (x : Cr) : mir (mir x) = x := by unfold mir; simp
theorem meet_swp {x : Cr} (h : okC x) : lsL x ≤ lsH (swp x) :=
  lsH_ge (ok_swp h) fun t ht => by rw [tH_swp]; have := in_swp.1 ht; exact lsL_le h (in_rng h this).1 (in_rng h this).2
theorem meet_mir {x : Cr} (h : okC x) : lsL x ≤ lsH (mir x) :=
  lsH_ge (ok_mir h) fun t ht => by rw [tH_mir]; have := in_mir.1 ht; exact lsL_le h (in_rng h this).1 (in_rng h this).2
theorem all_swp {x : Cr} (h : okC x) : max (lsL x) (lsL (swp x)) ≤ min (lsH x) (lsH (swp x)) := by
  have a := ls_le h
  have b := ls_le (ok_swp h)
  have c := meet_swp h
  have d := meet_swp (ok_swp h)
  rw [swp_swp] at d
  omega
theorem all_mir {x : Cr} (h : okC x) : max (lsL x) (lsL (mir x)) ≤ min (lsH x) (lsH (mir x)) := by
  have a := ls_le h
  have b := ls_le (ok_mir h)
  have c := meet_mir h
  have d := meet_mir (ok_mir h)
  rw [mir_mir] at d
  omega
theorem slp_mov (x : Cr) (b t : Int) : slp (mov x b) (t + b) = slp x t := by
  unfold slp slpC mov
  simp only
  rw [show t + b - (x.X1 + b) = t - x.X1 by omega, show x.X2 + b - (t + b) = x.X2 - t by omega]
  by_cases hx : x.X2 < x.X1
  · rw [if_pos hx, if_pos (by omega)]
  · rw [if_neg hx, if_neg (by omega)]
theorem plc_mov {x : Cr} {b : Int} (h : okC x) (hb : okC (mov x b)) : plc (mov x b) = plc x + b := by
  obtain ⟨h1, h2, h3⟩ := plc_is h
  refine plc_eq hb ⟨?_, ?_, ?_⟩
  · unfold inC mov at *; simp only; omega
  · rw [slp_mov]; exact h2
  · rcases h3 with h3 | h3
    · left; rw [h3]; unfold mov; simp only; omega
    · right; rw [show plc x + b + 1 = plc x + 1 + b by omega, slp_mov]; exact h3
theorem ls_mov {x : Cr} {b : Int} (h : okC x) (hb : okC (mov x b)) : lsL (mov x b) = lsL x ∧ lsH (mov x b) = lsH x := by
  have e := plc_mov h hb
  have tl : ∀ t, tL (mov x b) (t + b) = tL x t := fun t => by
    unfold tL mov; simp only
    rw [show t + b - (x.X1 + b) = t - x.X1 by omega, show x.X2 + b - (t + b) = x.X2 - t by omega]
  have th : ∀ t, tH (mov x b) (t + b) = tH x t := fun t => by
    unfold tH mov; simp only
    rw [show t + b - (x.X1 + b) = t - x.X1 by omega, show x.X2 + b - (t + b) = x.X2 - t by omega]
  have m : max (mov x b).X1 (mov x b).X2 = max x.X1 x.X2 + b := by unfold mov; simp only; omega
  have bb : bnd (mov x b) = bnd x := rfl
  unfold lsL lsH pL
  rw [bb, e, m, tl, th, show plc x + b + 1 = plc x + 1 + b by omega, tl, th]
  by_cases hk : plc x < max x.X1 x.X2
  · rw [if_pos hk, if_pos hk, if_pos (by omega), if_pos (by omega)]; exact ⟨rfl, rfl⟩
  · rw [if_neg hk, if_neg hk, if_neg (by omega), if_neg (by omega)]; exact ⟨rfl, rfl⟩
theorem cE_mov {x : Cr} {b : Int} (h : okC x) (hb : ¬ okC (mov x b)) : cE (mov x b) = 2 := by
  have h0 : ¬ cE (mov x b) = 0 := fun e => hb (cE_zero.1 e)
  obtain ⟨-, -, a3, a4, a5, a6⟩ := h
  unfold cE mov at *
  simp only at *
  rw [show (inB x.H1 1 100000 && inB x.H2 1 100000) = true by simp only [Bool.and_eq_true, inB_iff]; exact ⟨a3, a4⟩, inB_iff.2 a5, inB_iff.2 a6] at *
  cases hc : (inB (x.X1 + b) (-100000) 100000 && inB (x.X2 + b) (-100000) 100000)
  · rfl
  · rw [hc] at h0; exact absurd rfl h0

theorem meets_any (a b c d : Int) (w : World) :
    Calls Try.prog 39 #[.agg #[.int .i64 a, .int .i64 b], .agg #[.int .i64 c, .int .i64 d]] w fun e w' => e = .returned (.bool (decide (max a c ≤ min b d))) ∧ Below w.heap.size w w' := by
  go_enter Try.func39, Try.ntmps39
  go_wp2
  go_ret
  exact ⟨rfl, by (repeat' (first | (with_reducible exact Below.refl _ _) | (with_reducible assumption) | (with_reducible refine Below.alloc ?_ ?_ _) | (with_reducible refine Below.drew ?_) | (with_reducible refine below_drewN ?_ _) | (with_reducible refine Below.setCell ?_ ?_ _) | (with_reducible refine below_step (by with_reducible assumption) ?_ ?_) | (with_reducible exact Below.size (by with_reducible assumption)) | go_size))⟩

set_option maxRecDepth 100000 in
set_option maxHeartbeats 2000000 in
theorem sym_err (x : Cr) (b : Int) (w : World) (h : ¬ cE x = 0) :
    Calls Try.prog 7 #[.agg #[.int .i64 x.X1, .int .i64 x.H1, .int .i64 x.V1, .int .i64 x.X2, .int .i64 x.H2, .int .i64 x.V2], .int .i64 b] w fun e w' => e = .returned (.bool true) ∧ Below w.heap.size w w' := by
  have H := Lib.hid (fun W => least_err x W h)
  go_enter Try.func7, Try.ntmps7
  go_wp2_with fail; (refine (awake_any _).mono ?_; rintro e w1 ⟨rfl, hw1⟩; obtain ⟨hcw1, hfw1, hlw1, hmw1, hnw1⟩ := bcell3 hw1; have hzw1 := hw1.size; (try simp only [World.size_alloc, World.size_setCell, World.size_drew, size_drewN] at hzw1))
  have ca1_0 : w1.cell? ⟨w.heap.size, 0, none⟩ = some (.int .i64 (x.X1)) := (hcw1 (w.heap.size) (0) (by first | omega | (simp only [World.size_alloc, World.size_drew, World.size_setCell, size_drewN]; omega))).trans (by simp [go_sem, *]); have ca1_1 : w1.cell? ⟨w.heap.size, 1, none⟩ = some (.int .i64 (x.H1)) := (hcw1 (w.heap.size) (1) (by first | omega | (simp only [World.size_alloc, World.size_drew, World.size_setCell, size_drewN]; omega))).trans (by simp [go_sem, *]); have ca1_2 : w1.cell? ⟨w.heap.size, 2, none⟩ = some (.int .i64 (x.V1)) := (hcw1 (w.heap.size) (2) (by first | omega | (simp only [World.size_alloc, World.size_drew, World.size_setCell, size_drewN]; omega))).trans (by simp [go_sem, *]); have ca1_3 : w1.cell? ⟨w.heap.size, 3, none⟩ = some (.int .i64 (x.X2)) := (hcw1 (w.heap.size) (3) (by first | omega | (simp only [World.size_alloc, World.size_drew, World.size_setCell, size_drewN]; omega))).trans (by simp [go_sem, *]); have ca1_4 : w1.cell? ⟨w.heap.size, 4, none⟩ = some (.int .i64 (x.H2)) := (hcw1 (w.heap.size) (4) (by first | omega | (simp only [World.size_alloc, World.size_drew, World.size_setCell, size_drewN]; omega))).trans (by simp [go_sem, *]); have ca1_5 : w1.cell? ⟨w.heap.size, 5, none⟩ = some (.int .i64 (x.V2)) := (hcw1 (w.heap.size) (5) (by first | omega | (simp only [World.size_alloc, World.size_drew, World.size_setCell, size_drewN]; omega))).trans (by simp [go_sem, *]); have oa1 : w.heap.size < w1.heap.size := (by omega)
  go_wp2_with fail; (refine (H.out _).mono ?_; rintro e w2 ⟨rfl, hw2⟩; obtain ⟨hcw2, hfw2, hlw2, hmw2, hnw2⟩ := bcell3 hw2; have hzw2 := hw2.size; (try simp only [World.size_alloc, World.size_setCell, World.size_drew, size_drewN] at hzw2))
  go_wp2
  go_ret
  exact ⟨rfl, by (repeat' (first | (with_reducible exact Below.refl _ _) | (with_reducible assumption) | (with_reducible refine Below.alloc ?_ ?_ _) | (with_reducible refine Below.drew ?_) | (with_reducible refine below_drewN ?_ _) | (with_reducible refine Below.setCell ?_ ?_ _) | (with_reducible refine below_step (by with_reducible assumption) ?_ ?_) | (with_reducible exact Below.size (by with_reducible assumption)) | go_size))⟩

set_option maxRecDepth 100000 in
set_option maxHeartbeats 4000000 in
theorem sym_out (x : Cr) (b : Int) (w : World) (h : okC x) (hb : inB b (-10000) 10000 = false) :
    Calls Try.prog 7 #[.agg #[.int .i64 x.X1, .int .i64 x.H1, .int .i64 x.V1, .int .i64 x.X2, .int .i64 x.H2, .int .i64 x.V2], .int .i64 b] w fun e w' => e = .returned (.bool true) ∧ Below w.heap.size w w' := by
  have K1 : ∀ W, Calls Try.prog 36 #[.agg #[.int .i64 x.X1, .int .i64 x.H1, .int .i64 x.V1, .int .i64 x.X2, .int .i64 x.H2, .int .i64 x.V2]] W fun e w' => e = .returned (.tuple #[.agg #[.int .i64 (lsL x), .int .i64 (lsH x)], .int .i64 0]) ∧ Below W.heap.size W w' := fun W => least_ok x W h
  have K2 : ∀ W, Calls Try.prog 36 #[.agg #[.int .i64 x.X2, .int .i64 x.H2, .int .i64 x.V2, .int .i64 x.X1, .int .i64 x.H1, .int .i64 x.V1]] W fun e w' => e = .returned (.tuple #[.agg #[.int .i64 (lsL (swp x)), .int .i64 (lsH (swp x))], .int .i64 0]) ∧ Below W.heap.size W w' := fun W => least_ok (swp x) W (ok_swp h)
  have K3 : ∀ W, Calls Try.prog 36 #[.agg #[.int .i64 (-x.X1), .int .i64 x.H1, .int .i64 x.V1, .int .i64 (-x.X2), .int .i64 x.H2, .int .i64 x.V2]] W fun e w' => e = .returned (.tuple #[.agg #[.int .i64 (lsL (mir x)), .int .i64 (lsH (mir x))], .int .i64 0]) ∧ Below W.heap.size W w' := fun W => least_ok (mir x) W (ok_mir h)
  have m1 := all_swp h
  have m2 := all_mir h
  obtain ⟨g1, g2, -⟩ := h
  generalize lsL x = l1 at *
  generalize lsH x = u1 at *
  generalize lsL (swp x) = l2 at *
  generalize lsH (swp x) = u2 at *
  generalize lsL (mir x) = l3 at *
  generalize lsH (mir x) = u3 at *
  have D1 := Lib.hid (decide_eq_true m1)
  have D2 := Lib.hid (decide_eq_true m2)
  have H1 := Lib.hid K1
  have H2 := Lib.hid K2
  have H3 := Lib.hid K3
  clear K1 K2 K3 m1 m2
  have B1 := Lib.hid (show inB b (-10000) 10000 = false from hb)
  go_enter Try.func7, Try.ntmps7
  go_wp2_with fail; (refine (awake_any _).mono ?_; rintro e w1 ⟨rfl, hw1⟩; obtain ⟨hcw1, hfw1, hlw1, hmw1, hnw1⟩ := bcell3 hw1; have hzw1 := hw1.size; (try simp only [World.size_alloc, World.size_setCell, World.size_drew, size_drewN] at hzw1))
  have ca1_0 : w1.cell? ⟨w.heap.size, 0, none⟩ = some (.int .i64 (x.X1)) := (hcw1 (w.heap.size) (0) (by first | omega | (simp only [World.size_alloc, World.size_drew, World.size_setCell, size_drewN]; omega))).trans (by simp [go_sem, *]); have ca1_1 : w1.cell? ⟨w.heap.size, 1, none⟩ = some (.int .i64 (x.H1)) := (hcw1 (w.heap.size) (1) (by first | omega | (simp only [World.size_alloc, World.size_drew, World.size_setCell, size_drewN]; omega))).trans (by simp [go_sem, *]); have ca1_2 : w1.cell? ⟨w.heap.size, 2, none⟩ = some (.int .i64 (x.V1)) := (hcw1 (w.heap.size) (2) (by first | omega | (simp only [World.size_alloc, World.size_drew, World.size_setCell, size_drewN]; omega))).trans (by simp [go_sem, *]); have ca1_3 : w1.cell? ⟨w.heap.size, 3, none⟩ = some (.int .i64 (x.X2)) := (hcw1 (w.heap.size) (3) (by first | omega | (simp only [World.size_alloc, World.size_drew, World.size_setCell, size_drewN]; omega))).trans (by simp [go_sem, *]); have ca1_4 : w1.cell? ⟨w.heap.size, 4, none⟩ = some (.int .i64 (x.H2)) := (hcw1 (w.heap.size) (4) (by first | omega | (simp only [World.size_alloc, World.size_drew, World.size_setCell, size_drewN]; omega))).trans (by simp [go_sem, *]); have ca1_5 : w1.cell? ⟨w.heap.size, 5, none⟩ = some (.int .i64 (x.V2)) := (hcw1 (w.heap.size) (5) (by first | omega | (simp only [World.size_alloc, World.size_drew, World.size_setCell, size_drewN]; omega))).trans (by simp [go_sem, *]); have oa1 : w.heap.size < w1.heap.size := (by omega)
  go_wp2_with fail; (refine (H1.out _).mono ?_; rintro e w2 ⟨rfl, hw2⟩; obtain ⟨hcw2, hfw2, hlw2, hmw2, hnw2⟩ := bcell3 hw2; have hzw2 := hw2.size; (try simp only [World.size_alloc, World.size_setCell, World.size_drew, size_drewN] at hzw2))
  have ca2_0 : w2.cell? ⟨w.heap.size, 0, none⟩ = some (.int .i64 (x.X1)) := (hcw2 (w.heap.size) (0) (by first | omega | (simp only [World.size_alloc, World.size_drew, World.size_setCell, size_drewN]; omega))).trans (by simp [go_sem, *]); have ca2_1 : w2.cell? ⟨w.heap.size, 1, none⟩ = some (.int .i64 (x.H1)) := (hcw2 (w.heap.size) (1) (by first | omega | (simp only [World.size_alloc, World.size_drew, World.size_setCell, size_drewN]; omega))).trans (by simp [go_sem, *]); have ca2_2 : w2.cell? ⟨w.heap.size, 2, none⟩ = some (.int .i64 (x.V1)) := (hcw2 (w.heap.size) (2) (by first | omega | (simp only [World.size_alloc, World.size_drew, World.size_setCell, size_drewN]; omega))).trans (by simp [go_sem, *]); have ca2_3 : w2.cell? ⟨w.heap.size, 3, none⟩ = some (.int .i64 (x.X2)) := (hcw2 (w.heap.size) (3) (by first | omega | (simp only [World.size_alloc, World.size_drew, World.size_setCell, size_drewN]; omega))).trans (by simp [go_sem, *]); have ca2_4 : w2.cell? ⟨w.heap.size, 4, none⟩ = some (.int .i64 (x.H2)) := (hcw2 (w.heap.size) (4) (by first | omega | (simp only [World.size_alloc, World.size_drew, World.size_setCell, size_drewN]; omega))).trans (by simp [go_sem, *]); have ca2_5 : w2.cell? ⟨w.heap.size, 5, none⟩ = some (.int .i64 (x.V2)) := (hcw2 (w.heap.size) (5) (by first | omega | (simp only [World.size_alloc, World.size_drew, World.size_setCell, size_drewN]; omega))).trans (by simp [go_sem, *]); have oa2 : w.heap.size < w2.heap.size := (by omega)
  go_wp2_with fail; (refine (H2.out _).mono ?_; rintro e w3 ⟨rfl, hw3⟩; obtain ⟨hcw3, hfw3, hlw3, hmw3, hnw3⟩ := bcell3 hw3; have hzw3 := hw3.size; (try simp only [World.size_alloc, World.size_setCell, World.size_drew, size_drewN] at hzw3))
  have ca3_0 : w3.cell? ⟨w.heap.size, 0, none⟩ = some (.int .i64 (x.X1)) := (hcw3 (w.heap.size) (0) (by first | omega | (simp only [World.size_alloc, World.size_drew, World.size_setCell, size_drewN]; omega))).trans (by simp [go_sem, *]); have ca3_1 : w3.cell? ⟨w.heap.size, 1, none⟩ = some (.int .i64 (x.H1)) := (hcw3 (w.heap.size) (1) (by first | omega | (simp only [World.size_alloc, World.size_drew, World.size_setCell, size_drewN]; omega))).trans (by simp [go_sem, *]); have ca3_2 : w3.cell? ⟨w.heap.size, 2, none⟩ = some (.int .i64 (x.V1)) := (hcw3 (w.heap.size) (2) (by first | omega | (simp only [World.size_alloc, World.size_drew, World.size_setCell, size_drewN]; omega))).trans (by simp [go_sem, *]); have ca3_3 : w3.cell? ⟨w.heap.size, 3, none⟩ = some (.int .i64 (x.X2)) := (hcw3 (w.heap.size) (3) (by first | omega | (simp only [World.size_alloc, World.size_drew, World.size_setCell, size_drewN]; omega))).trans (by simp [go_sem, *]); have ca3_4 : w3.cell? ⟨w.heap.size, 4, none⟩ = some (.int .i64 (x.H2)) := (hcw3 (w.heap.size) (4) (by first | omega | (simp only [World.size_alloc, World.size_drew, World.size_setCell, size_drewN]; omega))).trans (by simp [go_sem, *]); have ca3_5 : w3.cell? ⟨w.heap.size, 5, none⟩ = some (.int .i64 (x.V2)) := (hcw3 (w.heap.size) (5) (by first | omega | (simp only [World.size_alloc, World.size_drew, World.size_setCell, size_drewN]; omega))).trans (by simp [go_sem, *]); have oa3 : w.heap.size < w3.heap.size := (by omega)
  have ct3_0 : w3.cell? ⟨w2.heap.size, 0, none⟩ = some (.int .i64 (l1)) := (hcw3 (w2.heap.size) (0) (by first | omega | (simp only [World.size_alloc, World.size_drew, World.size_setCell, size_drewN]; omega))).trans (by simp [go_sem, *]); have ct3_1 : w3.cell? ⟨w2.heap.size, 1, none⟩ = some (.int .i64 (u1)) := (hcw3 (w2.heap.size) (1) (by first | omega | (simp only [World.size_alloc, World.size_drew, World.size_setCell, size_drewN]; omega))).trans (by simp [go_sem, *]); have ot3 : w2.heap.size < w3.heap.size := (by omega)
  go_wp2_with fail; (refine (H3.out _).mono ?_; rintro e w4 ⟨rfl, hw4⟩; obtain ⟨hcw4, hfw4, hlw4, hmw4, hnw4⟩ := bcell3 hw4; have hzw4 := hw4.size; (try simp only [World.size_alloc, World.size_setCell, World.size_drew, size_drewN] at hzw4))
  have ca4_0 : w4.cell? ⟨w.heap.size, 0, none⟩ = some (.int .i64 (x.X1)) := (hcw4 (w.heap.size) (0) (by first | omega | (simp only [World.size_alloc, World.size_drew, World.size_setCell, size_drewN]; omega))).trans (by simp [go_sem, *]); have ca4_1 : w4.cell? ⟨w.heap.size, 1, none⟩ = some (.int .i64 (x.H1)) := (hcw4 (w.heap.size) (1) (by first | omega | (simp only [World.size_alloc, World.size_drew, World.size_setCell, size_drewN]; omega))).trans (by simp [go_sem, *]); have ca4_2 : w4.cell? ⟨w.heap.size, 2, none⟩ = some (.int .i64 (x.V1)) := (hcw4 (w.heap.size) (2) (by first | omega | (simp only [World.size_alloc, World.size_drew, World.size_setCell, size_drewN]; omega))).trans (by simp [go_sem, *]); have ca4_3 : w4.cell? ⟨w.heap.size, 3, none⟩ = some (.int .i64 (x.X2)) := (hcw4 (w.heap.size) (3) (by first | omega | (simp only [World.size_alloc, World.size_drew, World.size_setCell, size_drewN]; omega))).trans (by simp [go_sem, *]); have ca4_4 : w4.cell? ⟨w.heap.size, 4, none⟩ = some (.int .i64 (x.H2)) := (hcw4 (w.heap.size) (4) (by first | omega | (simp only [World.size_alloc, World.size_drew, World.size_setCell, size_drewN]; omega))).trans (by simp [go_sem, *]); have ca4_5 : w4.cell? ⟨w.heap.size, 5, none⟩ = some (.int .i64 (x.V2)) := (hcw4 (w.heap.size) (5) (by first | omega | (simp only [World.size_alloc, World.size_drew, World.size_setCell, size_drewN]; omega))).trans (by simp [go_sem, *]); have oa4 : w.heap.size < w4.heap.size := (by omega)
  have ct4_0 : w4.cell? ⟨w2.heap.size, 0, none⟩ = some (.int .i64 (l1)) := (hcw4 (w2.heap.size) (0) (by first | omega | (simp only [World.size_alloc, World.size_drew, World.size_setCell, size_drewN]; omega))).trans (by simp [go_sem, *]); have ct4_1 : w4.cell? ⟨w2.heap.size, 1, none⟩ = some (.int .i64 (u1)) := (hcw4 (w2.heap.size) (1) (by first | omega | (simp only [World.size_alloc, World.size_drew, World.size_setCell, size_drewN]; omega))).trans (by simp [go_sem, *]); have ot4 : w2.heap.size < w4.heap.size := (by omega)
  have cu4_0 : w4.cell? ⟨w3.heap.size, 0, none⟩ = some (.int .i64 (l2)) := (hcw4 (w3.heap.size) (0) (by first | omega | (simp only [World.size_alloc, World.size_drew, World.size_setCell, size_drewN]; omega))).trans (by simp [go_sem, *]); have cu4_1 : w4.cell? ⟨w3.heap.size, 1, none⟩ = some (.int .i64 (u2)) := (hcw4 (w3.heap.size) (1) (by first | omega | (simp only [World.size_alloc, World.size_drew, World.size_setCell, size_drewN]; omega))).trans (by simp [go_sem, *]); have ou4 : w3.heap.size < w4.heap.size := (by omega)
  go_wp2_with fail
  refine (meets_any l1 u1 l2 u2 _).mono ?_
  rw [D1.out]
  rintro e w5 ⟨rfl, hw5⟩
  obtain ⟨hcw5, hfw5, hlw5, hmw5, hnw5⟩ := bcell3 hw5
  have hzw5 := hw5.size
  try simp only [World.size_alloc] at hzw5
  have ca5_0 : w5.cell? ⟨w.heap.size, 0, none⟩ = some (.int .i64 (x.X1)) := (hcw5 (w.heap.size) (0) (by first | omega | (simp only [World.size_alloc, World.size_drew, World.size_setCell, size_drewN]; omega))).trans (by simp [go_sem, *]); have ca5_1 : w5.cell? ⟨w.heap.size, 1, none⟩ = some (.int .i64 (x.H1)) := (hcw5 (w.heap.size) (1) (by first | omega | (simp only [World.size_alloc, World.size_drew, World.size_setCell, size_drewN]; omega))).trans (by simp [go_sem, *]); have ca5_2 : w5.cell? ⟨w.heap.size, 2, none⟩ = some (.int .i64 (x.V1)) := (hcw5 (w.heap.size) (2) (by first | omega | (simp only [World.size_alloc, World.size_drew, World.size_setCell, size_drewN]; omega))).trans (by simp [go_sem, *]); have ca5_3 : w5.cell? ⟨w.heap.size, 3, none⟩ = some (.int .i64 (x.X2)) := (hcw5 (w.heap.size) (3) (by first | omega | (simp only [World.size_alloc, World.size_drew, World.size_setCell, size_drewN]; omega))).trans (by simp [go_sem, *]); have ca5_4 : w5.cell? ⟨w.heap.size, 4, none⟩ = some (.int .i64 (x.H2)) := (hcw5 (w.heap.size) (4) (by first | omega | (simp only [World.size_alloc, World.size_drew, World.size_setCell, size_drewN]; omega))).trans (by simp [go_sem, *]); have ca5_5 : w5.cell? ⟨w.heap.size, 5, none⟩ = some (.int .i64 (x.V2)) := (hcw5 (w.heap.size) (5) (by first | omega | (simp only [World.size_alloc, World.size_drew, World.size_setCell, size_drewN]; omega))).trans (by simp [go_sem, *]); have oa5 : w.heap.size < w5.heap.size := (by omega)
  have ct5_0 : w5.cell? ⟨w2.heap.size, 0, none⟩ = some (.int .i64 (l1)) := (hcw5 (w2.heap.size) (0) (by first | omega | (simp only [World.size_alloc, World.size_drew, World.size_setCell, size_drewN]; omega))).trans (by simp [go_sem, *]); have ct5_1 : w5.cell? ⟨w2.heap.size, 1, none⟩ = some (.int .i64 (u1)) := (hcw5 (w2.heap.size) (1) (by first | omega | (simp only [World.size_alloc, World.size_drew, World.size_setCell, size_drewN]; omega))).trans (by simp [go_sem, *]); have ot5 : w2.heap.size < w5.heap.size := (by omega)
  have cv5_0 : w5.cell? ⟨w4.heap.size, 0, none⟩ = some (.int .i64 (l3)) := (hcw5 (w4.heap.size) (0) (by first | omega | (simp only [World.size_alloc, World.size_drew, World.size_setCell, size_drewN]; omega))).trans (by simp [go_sem, *]); have cv5_1 : w5.cell? ⟨w4.heap.size, 1, none⟩ = some (.int .i64 (u3)) := (hcw5 (w4.heap.size) (1) (by first | omega | (simp only [World.size_alloc, World.size_drew, World.size_setCell, size_drewN]; omega))).trans (by simp [go_sem, *]); have ov5 : w4.heap.size < w5.heap.size := (by omega)
  go_wp2_with fail
  refine (meets_any l1 u1 l3 u3 _).mono ?_
  rw [D2.out]
  rintro e w6 ⟨rfl, hw6⟩
  obtain ⟨hcw6, hfw6, hlw6, hmw6, hnw6⟩ := bcell3 hw6
  have hzw6 := hw6.size
  try simp only [World.size_alloc] at hzw6
  have ca6_0 : w6.cell? ⟨w.heap.size, 0, none⟩ = some (.int .i64 (x.X1)) := (hcw6 (w.heap.size) (0) (by first | omega | (simp only [World.size_alloc, World.size_drew, World.size_setCell, size_drewN]; omega))).trans (by simp [go_sem, *]); have ca6_1 : w6.cell? ⟨w.heap.size, 1, none⟩ = some (.int .i64 (x.H1)) := (hcw6 (w.heap.size) (1) (by first | omega | (simp only [World.size_alloc, World.size_drew, World.size_setCell, size_drewN]; omega))).trans (by simp [go_sem, *]); have ca6_2 : w6.cell? ⟨w.heap.size, 2, none⟩ = some (.int .i64 (x.V1)) := (hcw6 (w.heap.size) (2) (by first | omega | (simp only [World.size_alloc, World.size_drew, World.size_setCell, size_drewN]; omega))).trans (by simp [go_sem, *]); have ca6_3 : w6.cell? ⟨w.heap.size, 3, none⟩ = some (.int .i64 (x.X2)) := (hcw6 (w.heap.size) (3) (by first | omega | (simp only [World.size_alloc, World.size_drew, World.size_setCell, size_drewN]; omega))).trans (by simp [go_sem, *]); have ca6_4 : w6.cell? ⟨w.heap.size, 4, none⟩ = some (.int .i64 (x.H2)) := (hcw6 (w.heap.size) (4) (by first | omega | (simp only [World.size_alloc, World.size_drew, World.size_setCell, size_drewN]; omega))).trans (by simp [go_sem, *]); have ca6_5 : w6.cell? ⟨w.heap.size, 5, none⟩ = some (.int .i64 (x.V2)) := (hcw6 (w.heap.size) (5) (by first | omega | (simp only [World.size_alloc, World.size_drew, World.size_setCell, size_drewN]; omega))).trans (by simp [go_sem, *]); have oa6 : w.heap.size < w6.heap.size := (by omega)
  have ct6_0 : w6.cell? ⟨w2.heap.size, 0, none⟩ = some (.int .i64 (l1)) := (hcw6 (w2.heap.size) (0) (by first | omega | (simp only [World.size_alloc, World.size_drew, World.size_setCell, size_drewN]; omega))).trans (by simp [go_sem, *]); have ct6_1 : w6.cell? ⟨w2.heap.size, 1, none⟩ = some (.int .i64 (u1)) := (hcw6 (w2.heap.size) (1) (by first | omega | (simp only [World.size_alloc, World.size_drew, World.size_setCell, size_drewN]; omega))).trans (by simp [go_sem, *]); have ot6 : w2.heap.size < w6.heap.size := (by omega)
  go_wp2_with fail
  refine (bwithin_any b (-10000) 10000 _).mono ?_
  rw [B1.out]
  rintro e w' ⟨rfl, rfl⟩
  go_wp2
  go_ret
  exact ⟨rfl, by (repeat' (first | (with_reducible exact Below.refl _ _) | (with_reducible assumption) | (with_reducible refine Below.alloc ?_ ?_ _) | (with_reducible refine Below.drew ?_) | (with_reducible refine below_drewN ?_ _) | (with_reducible refine Below.setCell ?_ ?_ _) | (with_reducible refine below_step (by with_reducible assumption) ?_ ?_) | (with_reducible exact Below.size (by with_reducible assumption)) | go_size))⟩

set_option maxRecDepth 100000 in
set_option maxHeartbeats 4000000 in
theorem sym_ok (x : Cr) (b : Int) (w : World) (h : okC x) (hb : inB b (-10000) 10000 = true) (hm : okC (mov x b)) :
    Calls Try.prog 7 #[.agg #[.int .i64 x.X1, .int .i64 x.H1, .int .i64 x.V1, .int .i64 x.X2, .int .i64 x.H2, .int .i64 x.V2], .int .i64 b] w fun e w' => e = .returned (.bool true) ∧ Below w.heap.size w w' := by
  have K1 : ∀ W, Calls Try.prog 36 #[.agg #[.int .i64 x.X1, .int .i64 x.H1, .int .i64 x.V1, .int .i64 x.X2, .int .i64 x.H2, .int .i64 x.V2]] W fun e w' => e = .returned (.tuple #[.agg #[.int .i64 (lsL x), .int .i64 (lsH x)], .int .i64 0]) ∧ Below W.heap.size W w' := fun W => least_ok x W h
  have K2 : ∀ W, Calls Try.prog 36 #[.agg #[.int .i64 x.X2, .int .i64 x.H2, .int .i64 x.V2, .int .i64 x.X1, .int .i64 x.H1, .int .i64 x.V1]] W fun e w' => e = .returned (.tuple #[.agg #[.int .i64 (lsL (swp x)), .int .i64 (lsH (swp x))], .int .i64 0]) ∧ Below W.heap.size W w' := fun W => least_ok (swp x) W (ok_swp h)
  have K3 : ∀ W, Calls Try.prog 36 #[.agg #[.int .i64 (-x.X1), .int .i64 x.H1, .int .i64 x.V1, .int .i64 (-x.X2), .int .i64 x.H2, .int .i64 x.V2]] W fun e w' => e = .returned (.tuple #[.agg #[.int .i64 (lsL (mir x)), .int .i64 (lsH (mir x))], .int .i64 0]) ∧ Below W.heap.size W w' := fun W => least_ok (mir x) W (ok_mir h)
  have K4 : ∀ W, Calls Try.prog 36 #[.agg #[.int .i64 (x.X1 + b), .int .i64 x.H1, .int .i64 x.V1, .int .i64 (x.X2 + b), .int .i64 x.H2, .int .i64 x.V2]] W fun e w' => e = .returned (.tuple #[.agg #[.int .i64 (lsL x), .int .i64 (lsH x)], .int .i64 0]) ∧ Below W.heap.size W w' := fun W => by
    have := least_ok (mov x b) W hm
    rw [(ls_mov h hm).1, (ls_mov h hm).2] at this
    exact this
  have hb2 := inB_iff.1 hb
  clear hm
  have m1 := all_swp h
  have m2 := all_mir h
  obtain ⟨g1, g2, -⟩ := h
  generalize lsL x = l1 at *
  generalize lsH x = u1 at *
  generalize lsL (swp x) = l2 at *
  generalize lsH (swp x) = u2 at *
  generalize lsL (mir x) = l3 at *
  generalize lsH (mir x) = u3 at *
  have D1 := Lib.hid (decide_eq_true m1)
  have D2 := Lib.hid (decide_eq_true m2)
  have H1 := Lib.hid K1
  have H2 := Lib.hid K2
  have H3 := Lib.hid K3
  clear K1 K2 K3 m1 m2
  have H4 := Lib.hid K4
  clear K4
  have B1 := Lib.hid (show inB b (-10000) 10000 = true from hb)
  go_enter Try.func7, Try.ntmps7
  go_wp2_with fail; (refine (awake_any _).mono ?_; rintro e w1 ⟨rfl, hw1⟩; obtain ⟨hcw1, hfw1, hlw1, hmw1, hnw1⟩ := bcell3 hw1; have hzw1 := hw1.size; (try simp only [World.size_alloc, World.size_setCell, World.size_drew, size_drewN] at hzw1))
  have ca1_0 : w1.cell? ⟨w.heap.size, 0, none⟩ = some (.int .i64 (x.X1)) := (hcw1 (w.heap.size) (0) (by first | omega | (simp only [World.size_alloc, World.size_drew, World.size_setCell, size_drewN]; omega))).trans (by simp [go_sem, *]); have ca1_1 : w1.cell? ⟨w.heap.size, 1, none⟩ = some (.int .i64 (x.H1)) := (hcw1 (w.heap.size) (1) (by first | omega | (simp only [World.size_alloc, World.size_drew, World.size_setCell, size_drewN]; omega))).trans (by simp [go_sem, *]); have ca1_2 : w1.cell? ⟨w.heap.size, 2, none⟩ = some (.int .i64 (x.V1)) := (hcw1 (w.heap.size) (2) (by first | omega | (simp only [World.size_alloc, World.size_drew, World.size_setCell, size_drewN]; omega))).trans (by simp [go_sem, *]); have ca1_3 : w1.cell? ⟨w.heap.size, 3, none⟩ = some (.int .i64 (x.X2)) := (hcw1 (w.heap.size) (3) (by first | omega | (simp only [World.size_alloc, World.size_drew, World.size_setCell, size_drewN]; omega))).trans (by simp [go_sem, *]); have ca1_4 : w1.cell? ⟨w.heap.size, 4, none⟩ = some (.int .i64 (x.H2)) := (hcw1 (w.heap.size) (4) (by first | omega | (simp only [World.size_alloc, World.size_drew, World.size_setCell, size_drewN]; omega))).trans (by simp [go_sem, *]); have ca1_5 : w1.cell? ⟨w.heap.size, 5, none⟩ = some (.int .i64 (x.V2)) := (hcw1 (w.heap.size) (5) (by first | omega | (simp only [World.size_alloc, World.size_drew, World.size_setCell, size_drewN]; omega))).trans (by simp [go_sem, *]); have oa1 : w.heap.size < w1.heap.size := (by omega)
  go_wp2_with fail; (refine (H1.out _).mono ?_; rintro e w2 ⟨rfl, hw2⟩; obtain ⟨hcw2, hfw2, hlw2, hmw2, hnw2⟩ := bcell3 hw2; have hzw2 := hw2.size; (try simp only [World.size_alloc, World.size_setCell, World.size_drew, size_drewN] at hzw2))
  have ca2_0 : w2.cell? ⟨w.heap.size, 0, none⟩ = some (.int .i64 (x.X1)) := (hcw2 (w.heap.size) (0) (by first | omega | (simp only [World.size_alloc, World.size_drew, World.size_setCell, size_drewN]; omega))).trans (by simp [go_sem, *]); have ca2_1 : w2.cell? ⟨w.heap.size, 1, none⟩ = some (.int .i64 (x.H1)) := (hcw2 (w.heap.size) (1) (by first | omega | (simp only [World.size_alloc, World.size_drew, World.size_setCell, size_drewN]; omega))).trans (by simp [go_sem, *]); have ca2_2 : w2.cell? ⟨w.heap.size, 2, none⟩ = some (.int .i64 (x.V1)) := (hcw2 (w.heap.size) (2) (by first | omega | (simp only [World.size_alloc, World.size_drew, World.size_setCell, size_drewN]; omega))).trans (by simp [go_sem, *]); have ca2_3 : w2.cell? ⟨w.heap.size, 3, none⟩ = some (.int .i64 (x.X2)) := (hcw2 (w.heap.size) (3) (by first | omega | (simp only [World.size_alloc, World.size_drew, World.size_setCell, size_drewN]; omega))).trans (by simp [go_sem, *]); have ca2_4 : w2.cell? ⟨w.heap.size, 4, none⟩ = some (.int .i64 (x.H2)) := (hcw2 (w.heap.size) (4) (by first | omega | (simp only [World.size_alloc, World.size_drew, World.size_setCell, size_drewN]; omega))).trans (by simp [go_sem, *]); have ca2_5 : w2.cell? ⟨w.heap.size, 5, none⟩ = some (.int .i64 (x.V2)) := (hcw2 (w.heap.size) (5) (by first | omega | (simp only [World.size_alloc, World.size_drew, World.size_setCell, size_drewN]; omega))).trans (by simp [go_sem, *]); have oa2 : w.heap.size < w2.heap.size := (by omega)
  go_wp2_with fail; (refine (H2.out _).mono ?_; rintro e w3 ⟨rfl, hw3⟩; obtain ⟨hcw3, hfw3, hlw3, hmw3, hnw3⟩ := bcell3 hw3; have hzw3 := hw3.size; (try simp only [World.size_alloc, World.size_setCell, World.size_drew, size_drewN] at hzw3))
  have ca3_0 : w3.cell? ⟨w.heap.size, 0, none⟩ = some (.int .i64 (x.X1)) := (hcw3 (w.heap.size) (0) (by first | omega | (simp only [World.size_alloc, World.size_drew, World.size_setCell, size_drewN]; omega))).trans (by simp [go_sem, *]); have ca3_1 : w3.cell? ⟨w.heap.size, 1, none⟩ = some (.int .i64 (x.H1)) := (hcw3 (w.heap.size) (1) (by first | omega | (simp only [World.size_alloc, World.size_drew, World.size_setCell, size_drewN]; omega))).trans (by simp [go_sem, *]); have ca3_2 : w3.cell? ⟨w.heap.size, 2, none⟩ = some (.int .i64 (x.V1)) := (hcw3 (w.heap.size) (2) (by first | omega | (simp only [World.size_alloc, World.size_drew, World.size_setCell, size_drewN]; omega))).trans (by simp [go_sem, *]); have ca3_3 : w3.cell? ⟨w.heap.size, 3, none⟩ = some (.int .i64 (x.X2)) := (hcw3 (w.heap.size) (3) (by first | omega | (simp only [World.size_alloc, World.size_drew, World.size_setCell, size_drewN]; omega))).trans (by simp [go_sem, *]); have ca3_4 : w3.cell? ⟨w.heap.size, 4, none⟩ = some (.int .i64 (x.H2)) := (hcw3 (w.heap.size) (4) (by first | omega | (simp only [World.size_alloc, World.size_drew, World.size_setCell, size_drewN]; omega))).trans (by simp [go_sem, *]); have ca3_5 : w3.cell? ⟨w.heap.size, 5, none⟩ = some (.int .i64 (x.V2)) := (hcw3 (w.heap.size) (5) (by first | omega | (simp only [World.size_alloc, World.size_drew, World.size_setCell, size_drewN]; omega))).trans (by simp [go_sem, *]); have oa3 : w.heap.size < w3.heap.size := (by omega)
  have ct3_0 : w3.cell? ⟨w2.heap.size, 0, none⟩ = some (.int .i64 (l1)) := (hcw3 (w2.heap.size) (0) (by first | omega | (simp only [World.size_alloc, World.size_drew, World.size_setCell, size_drewN]; omega))).trans (by simp [go_sem, *]); have ct3_1 : w3.cell? ⟨w2.heap.size, 1, none⟩ = some (.int .i64 (u1)) := (hcw3 (w2.heap.size) (1) (by first | omega | (simp only [World.size_alloc, World.size_drew, World.size_setCell, size_drewN]; omega))).trans (by simp [go_sem, *]); have ot3 : w2.heap.size < w3.heap.size := (by omega)
  go_wp2_with fail; (refine (H3.out _).mono ?_; rintro e w4 ⟨rfl, hw4⟩; obtain ⟨hcw4, hfw4, hlw4, hmw4, hnw4⟩ := bcell3 hw4; have hzw4 := hw4.size; (try simp only [World.size_alloc, World.size_setCell, World.size_drew, size_drewN] at hzw4))
  have ca4_0 : w4.cell? ⟨w.heap.size, 0, none⟩ = some (.int .i64 (x.X1)) := (hcw4 (w.heap.size) (0) (by first | omega | (simp only [World.size_alloc, World.size_drew, World.size_setCell, size_drewN]; omega))).trans (by simp [go_sem, *]); have ca4_1 : w4.cell? ⟨w.heap.size, 1, none⟩ = some (.int .i64 (x.H1)) := (hcw4 (w.heap.size) (1) (by first | omega | (simp only [World.size_alloc, World.size_drew, World.size_setCell, size_drewN]; omega))).trans (by simp [go_sem, *]); have ca4_2 : w4.cell? ⟨w.heap.size, 2, none⟩ = some (.int .i64 (x.V1)) := (hcw4 (w.heap.size) (2) (by first | omega | (simp only [World.size_alloc, World.size_drew, World.size_setCell, size_drewN]; omega))).trans (by simp [go_sem, *]); have ca4_3 : w4.cell? ⟨w.heap.size, 3, none⟩ = some (.int .i64 (x.X2)) := (hcw4 (w.heap.size) (3) (by first | omega | (simp only [World.size_alloc, World.size_drew, World.size_setCell, size_drewN]; omega))).trans (by simp [go_sem, *]); have ca4_4 : w4.cell? ⟨w.heap.size, 4, none⟩ = some (.int .i64 (x.H2)) := (hcw4 (w.heap.size) (4) (by first | omega | (simp only [World.size_alloc, World.size_drew, World.size_setCell, size_drewN]; omega))).trans (by simp [go_sem, *]); have ca4_5 : w4.cell? ⟨w.heap.size, 5, none⟩ = some (.int .i64 (x.V2)) := (hcw4 (w.heap.size) (5) (by first | omega | (simp only [World.size_alloc, World.size_drew, World.size_setCell, size_drewN]; omega))).trans (by simp [go_sem, *]); have oa4 : w.heap.size < w4.heap.size := (by omega)
  have ct4_0 : w4.cell? ⟨w2.heap.size, 0, none⟩ = some (.int .i64 (l1)) := (hcw4 (w2.heap.size) (0) (by first | omega | (simp only [World.size_alloc, World.size_drew, World.size_setCell, size_drewN]; omega))).trans (by simp [go_sem, *]); have ct4_1 : w4.cell? ⟨w2.heap.size, 1, none⟩ = some (.int .i64 (u1)) := (hcw4 (w2.heap.size) (1) (by first | omega | (simp only [World.size_alloc, World.size_drew, World.size_setCell, size_drewN]; omega))).trans (by simp [go_sem, *]); have ot4 : w2.heap.size < w4.heap.size := (by omega)
  have cu4_0 : w4.cell? ⟨w3.heap.size, 0, none⟩ = some (.int .i64 (l2)) := (hcw4 (w3.heap.size) (0) (by first | omega | (simp only [World.size_alloc, World.size_drew, World.size_setCell, size_drewN]; omega))).trans (by simp [go_sem, *]); have cu4_1 : w4.cell? ⟨w3.heap.size, 1, none⟩ = some (.int .i64 (u2)) := (hcw4 (w3.heap.size) (1) (by first | omega | (simp only [World.size_alloc, World.size_drew, World.size_setCell, size_drewN]; omega))).trans (by simp [go_sem, *]); have ou4 : w3.heap.size < w4.heap.size := (by omega)
  go_wp2_with fail
  refine (meets_any l1 u1 l2 u2 _).mono ?_
  rw [D1.out]
  rintro e w5 ⟨rfl, hw5⟩
  obtain ⟨hcw5, hfw5, hlw5, hmw5, hnw5⟩ := bcell3 hw5
  have hzw5 := hw5.size
  try simp only [World.size_alloc] at hzw5
  have ca5_0 : w5.cell? ⟨w.heap.size, 0, none⟩ = some (.int .i64 (x.X1)) := (hcw5 (w.heap.size) (0) (by first | omega | (simp only [World.size_alloc, World.size_drew, World.size_setCell, size_drewN]; omega))).trans (by simp [go_sem, *]); have ca5_1 : w5.cell? ⟨w.heap.size, 1, none⟩ = some (.int .i64 (x.H1)) := (hcw5 (w.heap.size) (1) (by first | omega | (simp only [World.size_alloc, World.size_drew, World.size_setCell, size_drewN]; omega))).trans (by simp [go_sem, *]); have ca5_2 : w5.cell? ⟨w.heap.size, 2, none⟩ = some (.int .i64 (x.V1)) := (hcw5 (w.heap.size) (2) (by first | omega | (simp only [World.size_alloc, World.size_drew, World.size_setCell, size_drewN]; omega))).trans (by simp [go_sem, *]); have ca5_3 : w5.cell? ⟨w.heap.size, 3, none⟩ = some (.int .i64 (x.X2)) := (hcw5 (w.heap.size) (3) (by first | omega | (simp only [World.size_alloc, World.size_drew, World.size_setCell, size_drewN]; omega))).trans (by simp [go_sem, *]); have ca5_4 : w5.cell? ⟨w.heap.size, 4, none⟩ = some (.int .i64 (x.H2)) := (hcw5 (w.heap.size) (4) (by first | omega | (simp only [World.size_alloc, World.size_drew, World.size_setCell, size_drewN]; omega))).trans (by simp [go_sem, *]); have ca5_5 : w5.cell? ⟨w.heap.size, 5, none⟩ = some (.int .i64 (x.V2)) := (hcw5 (w.heap.size) (5) (by first | omega | (simp only [World.size_alloc, World.size_drew, World.size_setCell, size_drewN]; omega))).trans (by simp [go_sem, *]); have oa5 : w.heap.size < w5.heap.size := (by omega)
  have ct5_0 : w5.cell? ⟨w2.heap.size, 0, none⟩ = some (.int .i64 (l1)) := (hcw5 (w2.heap.size) (0) (by first | omega | (simp only [World.size_alloc, World.size_drew, World.size_setCell, size_drewN]; omega))).trans (by simp [go_sem, *]); have ct5_1 : w5.cell? ⟨w2.heap.size, 1, none⟩ = some (.int .i64 (u1)) := (hcw5 (w2.heap.size) (1) (by first | omega | (simp only [World.size_alloc, World.size_drew, World.size_setCell, size_drewN]; omega))).trans (by simp [go_sem, *]); have ot5 : w2.heap.size < w5.heap.size := (by omega)
  have cv5_0 : w5.cell? ⟨w4.heap.size, 0, none⟩ = some (.int .i64 (l3)) := (hcw5 (w4.heap.size) (0) (by first | omega | (simp only [World.size_alloc, World.size_drew, World.size_setCell, size_drewN]; omega))).trans (by simp [go_sem, *]); have cv5_1 : w5.cell? ⟨w4.heap.size, 1, none⟩ = some (.int .i64 (u3)) := (hcw5 (w4.heap.size) (1) (by first | omega | (simp only [World.size_alloc, World.size_drew, World.size_setCell, size_drewN]; omega))).trans (by simp [go_sem, *]); have ov5 : w4.heap.size < w5.heap.size := (by omega)
  go_wp2_with fail
  refine (meets_any l1 u1 l3 u3 _).mono ?_
  rw [D2.out]
  rintro e w6 ⟨rfl, hw6⟩
  obtain ⟨hcw6, hfw6, hlw6, hmw6, hnw6⟩ := bcell3 hw6
  have hzw6 := hw6.size
  try simp only [World.size_alloc] at hzw6
  have ca6_0 : w6.cell? ⟨w.heap.size, 0, none⟩ = some (.int .i64 (x.X1)) := (hcw6 (w.heap.size) (0) (by first | omega | (simp only [World.size_alloc, World.size_drew, World.size_setCell, size_drewN]; omega))).trans (by simp [go_sem, *]); have ca6_1 : w6.cell? ⟨w.heap.size, 1, none⟩ = some (.int .i64 (x.H1)) := (hcw6 (w.heap.size) (1) (by first | omega | (simp only [World.size_alloc, World.size_drew, World.size_setCell, size_drewN]; omega))).trans (by simp [go_sem, *]); have ca6_2 : w6.cell? ⟨w.heap.size, 2, none⟩ = some (.int .i64 (x.V1)) := (hcw6 (w.heap.size) (2) (by first | omega | (simp only [World.size_alloc, World.size_drew, World.size_setCell, size_drewN]; omega))).trans (by simp [go_sem, *]); have ca6_3 : w6.cell? ⟨w.heap.size, 3, none⟩ = some (.int .i64 (x.X2)) := (hcw6 (w.heap.size) (3) (by first | omega | (simp only [World.size_alloc, World.size_drew, World.size_setCell, size_drewN]; omega))).trans (by simp [go_sem, *]); have ca6_4 : w6.cell? ⟨w.heap.size, 4, none⟩ = some (.int .i64 (x.H2)) := (hcw6 (w.heap.size) (4) (by first | omega | (simp only [World.size_alloc, World.size_drew, World.size_setCell, size_drewN]; omega))).trans (by simp [go_sem, *]); have ca6_5 : w6.cell? ⟨w.heap.size, 5, none⟩ = some (.int .i64 (x.V2)) := (hcw6 (w.heap.size) (5) (by first | omega | (simp only [World.size_alloc, World.size_drew, World.size_setCell, size_drewN]; omega))).trans (by simp [go_sem, *]); have oa6 : w.heap.size < w6.heap.size := (by omega)
  have ct6_0 : w6.cell? ⟨w2.heap.size, 0, none⟩ = some (.int .i64 (l1)) := (hcw6 (w2.heap.size) (0) (by first | omega | (simp only [World.size_alloc, World.size_drew, World.size_setCell, size_drewN]; omega))).trans (by simp [go_sem, *]); have ct6_1 : w6.cell? ⟨w2.heap.size, 1, none⟩ = some (.int .i64 (u1)) := (hcw6 (w2.heap.size) (1) (by first | omega | (simp only [World.size_alloc, World.size_drew, World.size_setCell, size_drewN]; omega))).trans (by simp [go_sem, *]); have ot6 : w2.heap.size < w6.heap.size := (by omega)
  go_wp2_with fail
  refine (bwithin_any b (-10000) 10000 _).mono ?_
  rw [B1.out]
  rintro e w' ⟨rfl, rfl⟩
  go_wp2_with fail; (refine (H4.out _).mono ?_; rintro e w7 ⟨rfl, hw7⟩; obtain ⟨hcw7, hfw7, hlw7, hmw7, hnw7⟩ := bcell3 hw7; have hzw7 := hw7.size; (try simp only [World.size_alloc, World.size_setCell, World.size_drew, size_drewN] at hzw7))
  have ct7_0 : w7.cell? ⟨w2.heap.size, 0, none⟩ = some (.int .i64 (l1)) := (hcw7 (w2.heap.size) (0) (by first | omega | (simp only [World.size_alloc, World.size_drew, World.size_setCell, size_drewN]; omega))).trans (by simp [go_sem, *]); have ct7_1 : w7.cell? ⟨w2.heap.size, 1, none⟩ = some (.int .i64 (u1)) := (hcw7 (w2.heap.size) (1) (by first | omega | (simp only [World.size_alloc, World.size_drew, World.size_setCell, size_drewN]; omega))).trans (by simp [go_sem, *]); have ot7 : w2.heap.size < w7.heap.size := (by omega)
  go_wp2
  go_ret
  exact ⟨rfl, by (repeat' (first | (with_reducible exact Below.refl _ _) | (with_reducible assumption) | (with_reducible refine Below.alloc ?_ ?_ _) | (with_reducible refine Below.drew ?_) | (with_reducible refine below_drewN ?_ _) | (with_reducible refine Below.setCell ?_ ?_ _) | (with_reducible refine below_step (by with_reducible assumption) ?_ ?_) | (with_reducible exact Below.size (by with_reducible assumption)) | go_size))⟩

set_option maxRecDepth 100000 in
set_option maxHeartbeats 4000000 in
theorem sym_bad (x : Cr) (b : Int) (w : World) (h : okC x) (hb : inB b (-10000) 10000 = true) (hm : ¬ okC (mov x b)) :
    Calls Try.prog 7 #[.agg #[.int .i64 x.X1, .int .i64 x.H1, .int .i64 x.V1, .int .i64 x.X2, .int .i64 x.H2, .int .i64 x.V2], .int .i64 b] w fun e w' => e = .returned (.bool true) ∧ Below w.heap.size w w' := by
  have K1 : ∀ W, Calls Try.prog 36 #[.agg #[.int .i64 x.X1, .int .i64 x.H1, .int .i64 x.V1, .int .i64 x.X2, .int .i64 x.H2, .int .i64 x.V2]] W fun e w' => e = .returned (.tuple #[.agg #[.int .i64 (lsL x), .int .i64 (lsH x)], .int .i64 0]) ∧ Below W.heap.size W w' := fun W => least_ok x W h
  have K2 : ∀ W, Calls Try.prog 36 #[.agg #[.int .i64 x.X2, .int .i64 x.H2, .int .i64 x.V2, .int .i64 x.X1, .int .i64 x.H1, .int .i64 x.V1]] W fun e w' => e = .returned (.tuple #[.agg #[.int .i64 (lsL (swp x)), .int .i64 (lsH (swp x))], .int .i64 0]) ∧ Below W.heap.size W w' := fun W => least_ok (swp x) W (ok_swp h)
  have K3 : ∀ W, Calls Try.prog 36 #[.agg #[.int .i64 (-x.X1), .int .i64 x.H1, .int .i64 x.V1, .int .i64 (-x.X2), .int .i64 x.H2, .int .i64 x.V2]] W fun e w' => e = .returned (.tuple #[.agg #[.int .i64 (lsL (mir x)), .int .i64 (lsH (mir x))], .int .i64 0]) ∧ Below W.heap.size W w' := fun W => least_ok (mir x) W (ok_mir h)
  have K4 : ∀ W, Calls Try.prog 36 #[.agg #[.int .i64 (x.X1 + b), .int .i64 x.H1, .int .i64 x.V1, .int .i64 (x.X2 + b), .int .i64 x.H2, .int .i64 x.V2]] W fun e w' => e = .returned (.tuple #[.agg #[.int .i64 (0), .int .i64 (0)], .int .i64 2]) ∧ Below W.heap.size W w' := fun W => by
    have := least_err (mov x b) W (fun e => hm (cE_zero.1 e))
    rw [cE_mov h hm] at this
    exact this
  have hb2 := inB_iff.1 hb
  clear hm
  have m1 := all_swp h
  have m2 := all_mir h
  obtain ⟨g1, g2, -⟩ := h
  generalize lsL x = l1 at *
  generalize lsH x = u1 at *
  generalize lsL (swp x) = l2 at *
  generalize lsH (swp x) = u2 at *
  generalize lsL (mir x) = l3 at *
  generalize lsH (mir x) = u3 at *
  have D1 := Lib.hid (decide_eq_true m1)
  have D2 := Lib.hid (decide_eq_true m2)
  have H1 := Lib.hid K1
  have H2 := Lib.hid K2
  have H3 := Lib.hid K3
  clear K1 K2 K3 m1 m2
  have H4 := Lib.hid K4
  clear K4
  have B1 := Lib.hid (show inB b (-10000) 10000 = true from hb)
  go_enter Try.func7, Try.ntmps7
  go_wp2_with fail; (refine (awake_any _).mono ?_; rintro e w1 ⟨rfl, hw1⟩; obtain ⟨hcw1, hfw1, hlw1, hmw1, hnw1⟩ := bcell3 hw1; have hzw1 := hw1.size; (try simp only [World.size_alloc, World.size_setCell, World.size_drew, size_drewN] at hzw1))
  have ca1_0 : w1.cell? ⟨w.heap.size, 0, none⟩ = some (.int .i64 (x.X1)) := (hcw1 (w.heap.size) (0) (by first | omega | (simp only [World.size_alloc, World.size_drew, World.size_setCell, size_drewN]; omega))).trans (by simp [go_sem, *]); have ca1_1 : w1.cell? ⟨w.heap.size, 1, none⟩ = some (.int .i64 (x.H1)) := (hcw1 (w.heap.size) (1) (by first | omega | (simp only [World.size_alloc, World.size_drew, World.size_setCell, size_drewN]; omega))).trans (by simp [go_sem, *]); have ca1_2 : w1.cell? ⟨w.heap.size, 2, none⟩ = some (.int .i64 (x.V1)) := (hcw1 (w.heap.size) (2) (by first | omega | (simp only [World.size_alloc, World.size_drew, World.size_setCell, size_drewN]; omega))).trans (by simp [go_sem, *]); have ca1_3 : w1.cell? ⟨w.heap.size, 3, none⟩ = some (.int .i64 (x.X2)) := (hcw1 (w.heap.size) (3) (by first | omega | (simp only [World.size_alloc, World.size_drew, World.size_setCell, size_drewN]; omega))).trans (by simp [go_sem, *]); have ca1_4 : w1.cell? ⟨w.heap.size, 4, none⟩ = some (.int .i64 (x.H2)) := (hcw1 (w.heap.size) (4) (by first | omega | (simp only [World.size_alloc, World.size_drew, World.size_setCell, size_drewN]; omega))).trans (by simp [go_sem, *]); have ca1_5 : w1.cell? ⟨w.heap.size, 5, none⟩ = some (.int .i64 (x.V2)) := (hcw1 (w.heap.size) (5) (by first | omega | (simp only [World.size_alloc, World.size_drew, World.size_setCell, size_drewN]; omega))).trans (by simp [go_sem, *]); have oa1 : w.heap.size < w1.heap.size := (by omega)
  go_wp2_with fail; (refine (H1.out _).mono ?_; rintro e w2 ⟨rfl, hw2⟩; obtain ⟨hcw2, hfw2, hlw2, hmw2, hnw2⟩ := bcell3 hw2; have hzw2 := hw2.size; (try simp only [World.size_alloc, World.size_setCell, World.size_drew, size_drewN] at hzw2))
  have ca2_0 : w2.cell? ⟨w.heap.size, 0, none⟩ = some (.int .i64 (x.X1)) := (hcw2 (w.heap.size) (0) (by first | omega | (simp only [World.size_alloc, World.size_drew, World.size_setCell, size_drewN]; omega))).trans (by simp [go_sem, *]); have ca2_1 : w2.cell? ⟨w.heap.size, 1, none⟩ = some (.int .i64 (x.H1)) := (hcw2 (w.heap.size) (1) (by first | omega | (simp only [World.size_alloc, World.size_drew, World.size_setCell, size_drewN]; omega))).trans (by simp [go_sem, *]); have ca2_2 : w2.cell? ⟨w.heap.size, 2, none⟩ = some (.int .i64 (x.V1)) := (hcw2 (w.heap.size) (2) (by first | omega | (simp only [World.size_alloc, World.size_drew, World.size_setCell, size_drewN]; omega))).trans (by simp [go_sem, *]); have ca2_3 : w2.cell? ⟨w.heap.size, 3, none⟩ = some (.int .i64 (x.X2)) := (hcw2 (w.heap.size) (3) (by first | omega | (simp only [World.size_alloc, World.size_drew, World.size_setCell, size_drewN]; omega))).trans (by simp [go_sem, *]); have ca2_4 : w2.cell? ⟨w.heap.size, 4, none⟩ = some (.int .i64 (x.H2)) := (hcw2 (w.heap.size) (4) (by first | omega | (simp only [World.size_alloc, World.size_drew, World.size_setCell, size_drewN]; omega))).trans (by simp [go_sem, *]); have ca2_5 : w2.cell? ⟨w.heap.size, 5, none⟩ = some (.int .i64 (x.V2)) := (hcw2 (w.heap.size) (5) (by first | omega | (simp only [World.size_alloc, World.size_drew, World.size_setCell, size_drewN]; omega))).trans (by simp [go_sem, *]); have oa2 : w.heap.size < w2.heap.size := (by omega)
  go_wp2_with fail; (refine (H2.out _).mono ?_; rintro e w3 ⟨rfl, hw3⟩; obtain ⟨hcw3, hfw3, hlw3, hmw3, hnw3⟩ := bcell3 hw3; have hzw3 := hw3.size; (try simp only [World.size_alloc, World.size_setCell, World.size_drew, size_drewN] at hzw3))
  have ca3_0 : w3.cell? ⟨w.heap.size, 0, none⟩ = some (.int .i64 (x.X1)) := (hcw3 (w.heap.size) (0) (by first | omega | (simp only [World.size_alloc, World.size_drew, World.size_setCell, size_drewN]; omega))).trans (by simp [go_sem, *]); have ca3_1 : w3.cell? ⟨w.heap.size, 1, none⟩ = some (.int .i64 (x.H1)) := (hcw3 (w.heap.size) (1) (by first | omega | (simp only [World.size_alloc, World.size_drew, World.size_setCell, size_drewN]; omega))).trans (by simp [go_sem, *]); have ca3_2 : w3.cell? ⟨w.heap.size, 2, none⟩ = some (.int .i64 (x.V1)) := (hcw3 (w.heap.size) (2) (by first | omega | (simp only [World.size_alloc, World.size_drew, World.size_setCell, size_drewN]; omega))).trans (by simp [go_sem, *]); have ca3_3 : w3.cell? ⟨w.heap.size, 3, none⟩ = some (.int .i64 (x.X2)) := (hcw3 (w.heap.size) (3) (by first | omega | (simp only [World.size_alloc, World.size_drew, World.size_setCell, size_drewN]; omega))).trans (by simp [go_sem, *]); have ca3_4 : w3.cell? ⟨w.heap.size, 4, none⟩ = some (.int .i64 (x.H2)) := (hcw3 (w.heap.size) (4) (by first | omega | (simp only [World.size_alloc, World.size_drew, World.size_setCell, size_drewN]; omega))).trans (by simp [go_sem, *]); have ca3_5 : w3.cell? ⟨w.heap.size, 5, none⟩ = some (.int .i64 (x.V2)) := (hcw3 (w.heap.size) (5) (by first | omega | (simp only [World.size_alloc, World.size_drew, World.size_setCell, size_drewN]; omega))).trans (by simp [go_sem, *]); have oa3 : w.heap.size < w3.heap.size := (by omega)
  have ct3_0 : w3.cell? ⟨w2.heap.size, 0, none⟩ = some (.int .i64 (l1)) := (hcw3 (w2.heap.size) (0) (by first | omega | (simp only [World.size_alloc, World.size_drew, World.size_setCell, size_drewN]; omega))).trans (by simp [go_sem, *]); have ct3_1 : w3.cell? ⟨w2.heap.size, 1, none⟩ = some (.int .i64 (u1)) := (hcw3 (w2.heap.size) (1) (by first | omega | (simp only [World.size_alloc, World.size_drew, World.size_setCell, size_drewN]; omega))).trans (by simp [go_sem, *]); have ot3 : w2.heap.size < w3.heap.size := (by omega)
  go_wp2_with fail; (refine (H3.out _).mono ?_; rintro e w4 ⟨rfl, hw4⟩; obtain ⟨hcw4, hfw4, hlw4, hmw4, hnw4⟩ := bcell3 hw4; have hzw4 := hw4.size; (try simp only [World.size_alloc, World.size_setCell, World.size_drew, size_drewN] at hzw4))
  have ca4_0 : w4.cell? ⟨w.heap.size, 0, none⟩ = some (.int .i64 (x.X1)) := (hcw4 (w.heap.size) (0) (by first | omega | (simp only [World.size_alloc, World.size_drew, World.size_setCell, size_drewN]; omega))).trans (by simp [go_sem, *]); have ca4_1 : w4.cell? ⟨w.heap.size, 1, none⟩ = some (.int .i64 (x.H1)) := (hcw4 (w.heap.size) (1) (by first | omega | (simp only [World.size_alloc, World.size_drew, World.size_setCell, size_drewN]; omega))).trans (by simp [go_sem, *]); have ca4_2 : w4.cell? ⟨w.heap.size, 2, none⟩ = some (.int .i64 (x.V1)) := (hcw4 (w.heap.size) (2) (by first | omega | (simp only [World.size_alloc, World.size_drew, World.size_setCell, size_drewN]; omega))).trans (by simp [go_sem, *]); have ca4_3 : w4.cell? ⟨w.heap.size, 3, none⟩ = some (.int .i64 (x.X2)) := (hcw4 (w.heap.size) (3) (by first | omega | (simp only [World.size_alloc, World.size_drew, World.size_setCell, size_drewN]; omega))).trans (by simp [go_sem, *]); have ca4_4 : w4.cell? ⟨w.heap.size, 4, none⟩ = some (.int .i64 (x.H2)) := (hcw4 (w.heap.size) (4) (by first | omega | (simp only [World.size_alloc, World.size_drew, World.size_setCell, size_drewN]; omega))).trans (by simp [go_sem, *]); have ca4_5 : w4.cell? ⟨w.heap.size, 5, none⟩ = some (.int .i64 (x.V2)) := (hcw4 (w.heap.size) (5) (by first | omega | (simp only [World.size_alloc, World.size_drew, World.size_setCell, size_drewN]; omega))).trans (by simp [go_sem, *]); have oa4 : w.heap.size < w4.heap.size := (by omega)
  have ct4_0 : w4.cell? ⟨w2.heap.size, 0, none⟩ = some (.int .i64 (l1)) := (hcw4 (w2.heap.size) (0) (by first | omega | (simp only [World.size_alloc, World.size_drew, World.size_setCell, size_drewN]; omega))).trans (by simp [go_sem, *]); have ct4_1 : w4.cell? ⟨w2.heap.size, 1, none⟩ = some (.int .i64 (u1)) := (hcw4 (w2.heap.size) (1) (by first | omega | (simp only [World.size_alloc, World.size_drew, World.size_setCell, size_drewN]; omega))).trans (by simp [go_sem, *]); have ot4 : w2.heap.size < w4.heap.size := (by omega)
  have cu4_0 : w4.cell? ⟨w3.heap.size, 0, none⟩ = some (.int .i64 (l2)) := (hcw4 (w3.heap.size) (0) (by first | omega | (simp only [World.size_alloc, World.size_drew, World.size_setCell, size_drewN]; omega))).trans (by simp [go_sem, *]); have cu4_1 : w4.cell? ⟨w3.heap.size, 1, none⟩ = some (.int .i64 (u2)) := (hcw4 (w3.heap.size) (1) (by first | omega | (simp only [World.size_alloc, World.size_drew, World.size_setCell, size_drewN]; omega))).trans (by simp [go_sem, *]); have ou4 : w3.heap.size < w4.heap.size := (by omega)
  go_wp2_with fail
  refine (meets_any l1 u1 l2 u2 _).mono ?_
  rw [D1.out]
  rintro e w5 ⟨rfl, hw5⟩
  obtain ⟨hcw5, hfw5, hlw5, hmw5, hnw5⟩ := bcell3 hw5
  have hzw5 := hw5.size
  try simp only [World.size_alloc] at hzw5
  have ca5_0 : w5.cell? ⟨w.heap.size, 0, none⟩ = some (.int .i64 (x.X1)) := (hcw5 (w.heap.size) (0) (by first | omega | (simp only [World.size_alloc, World.size_drew, World.size_setCell, size_drewN]; omega))).trans (by simp [go_sem, *]); have ca5_1 : w5.cell? ⟨w.heap.size, 1, none⟩ = some (.int .i64 (x.H1)) := (hcw5 (w.heap.size) (1) (by first | omega | (simp only [World.size_alloc, World.size_drew, World.size_setCell, size_drewN]; omega))).trans (by simp [go_sem, *]); have ca5_2 : w5.cell? ⟨w.heap.size, 2, none⟩ = some (.int .i64 (x.V1)) := (hcw5 (w.heap.size) (2) (by first | omega | (simp only [World.size_alloc, World.size_drew, World.size_setCell, size_drewN]; omega))).trans (by simp [go_sem, *]); have ca5_3 : w5.cell? ⟨w.heap.size, 3, none⟩ = some (.int .i64 (x.X2)) := (hcw5 (w.heap.size) (3) (by first | omega | (simp only [World.size_alloc, World.size_drew, World.size_setCell, size_drewN]; omega))).trans (by simp [go_sem, *]); have ca5_4 : w5.cell? ⟨w.heap.size, 4, none⟩ = some (.int .i64 (x.H2)) := (hcw5 (w.heap.size) (4) (by first | omega | (simp only [World.size_alloc, World.size_drew, World.size_setCell, size_drewN]; omega))).trans (by simp [go_sem, *]); have ca5_5 : w5.cell? ⟨w.heap.size, 5, none⟩ = some (.int .i64 (x.V2)) := (hcw5 (w.heap.size) (5) (by first | omega | (simp only [World.size_alloc, World.size_drew, World.size_setCell, size_drewN]; omega))).trans (by simp [go_sem, *]); have oa5 : w.heap.size < w5.heap.size := (by omega)
  have ct5_0 : w5.cell? ⟨w2.heap.size, 0, none⟩ = some (.int .i64 (l1)) := (hcw5 (w2.heap.size) (0) (by first | omega | (simp only [World.size_alloc, World.size_drew, World.size_setCell, size_drewN]; omega))).trans (by simp [go_sem, *]); have ct5_1 : w5.cell? ⟨w2.heap.size, 1, none⟩ = some (.int .i64 (u1)) := (hcw5 (w2.heap.size) (1) (by first | omega | (simp only [World.size_alloc, World.size_drew, World.size_setCell, size_drewN]; omega))).trans (by simp [go_sem, *]); have ot5 : w2.heap.size < w5.heap.size := (by omega)
  have cv5_0 : w5.cell? ⟨w4.heap.size, 0, none⟩ = some (.int .i64 (l3)) := (hcw5 (w4.heap.size) (0) (by first | omega | (simp only [World.size_alloc, World.size_drew, World.size_setCell, size_drewN]; omega))).trans (by simp [go_sem, *]); have cv5_1 : w5.cell? ⟨w4.heap.size, 1, none⟩ = some (.int .i64 (u3)) := (hcw5 (w4.heap.size) (1) (by first | omega | (simp only [World.size_alloc, World.size_drew, World.size_setCell, size_drewN]; omega))).trans (by simp [go_sem, *]); have ov5 : w4.heap.size < w5.heap.size := (by omega)
  go_wp2_with fail
  refine (meets_any l1 u1 l3 u3 _).mono ?_
  rw [D2.out]
  rintro e w6 ⟨rfl, hw6⟩
  obtain ⟨hcw6, hfw6, hlw6, hmw6, hnw6⟩ := bcell3 hw6
  have hzw6 := hw6.size
  try simp only [World.size_alloc] at hzw6
  have ca6_0 : w6.cell? ⟨w.heap.size, 0, none⟩ = some (.int .i64 (x.X1)) := (hcw6 (w.heap.size) (0) (by first | omega | (simp only [World.size_alloc, World.size_drew, World.size_setCell, size_drewN]; omega))).trans (by simp [go_sem, *]); have ca6_1 : w6.cell? ⟨w.heap.size, 1, none⟩ = some (.int .i64 (x.H1)) := (hcw6 (w.heap.size) (1) (by first | omega | (simp only [World.size_alloc, World.size_drew, World.size_setCell, size_drewN]; omega))).trans (by simp [go_sem, *]); have ca6_2 : w6.cell? ⟨w.heap.size, 2, none⟩ = some (.int .i64 (x.V1)) := (hcw6 (w.heap.size) (2) (by first | omega | (simp only [World.size_alloc, World.size_drew, World.size_setCell, size_drewN]; omega))).trans (by simp [go_sem, *]); have ca6_3 : w6.cell? ⟨w.heap.size, 3, none⟩ = some (.int .i64 (x.X2)) := (hcw6 (w.heap.size) (3) (by first | omega | (simp only [World.size_alloc, World.size_drew, World.size_setCell, size_drewN]; omega))).trans (by simp [go_sem, *]); have ca6_4 : w6.cell? ⟨w.heap.size, 4, none⟩ = some (.int .i64 (x.H2)) := (hcw6 (w.heap.size) (4) (by first | omega | (simp only [World.size_alloc, World.size_drew, World.size_setCell, size_drewN]; omega))).trans (by simp [go_sem, *]); have ca6_5 : w6.cell? ⟨w.heap.size, 5, none⟩ = some (.int .i64 (x.V2)) := (hcw6 (w.heap.size) (5) (by first | omega | (simp only [World.size_alloc, World.size_drew, World.size_setCell, size_drewN]; omega))).trans (by simp [go_sem, *]); have oa6 : w.heap.size < w6.heap.size := (by omega)
  have ct6_0 : w6.cell? ⟨w2.heap.size, 0, none⟩ = some (.int .i64 (l1)) := (hcw6 (w2.heap.size) (0) (by first | omega | (simp only [World.size_alloc, World.size_drew, World.size_setCell, size_drewN]; omega))).trans (by simp [go_sem, *]); have ct6_1 : w6.cell? ⟨w2.heap.size, 1, none⟩ = some (.int .i64 (u1)) := (hcw6 (w2.heap.size) (1) (by first | omega | (simp only [World.size_alloc, World.size_drew, World.size_setCell, size_drewN]; omega))).trans (by simp [go_sem, *]); have ot6 : w2.heap.size < w6.heap.size := (by omega)
  go_wp2_with fail
  refine (bwithin_any b (-10000) 10000 _).mono ?_
  rw [B1.out]
  rintro e w' ⟨rfl, rfl⟩
  go_wp2_with fail; (refine (H4.out _).mono ?_; rintro e w7 ⟨rfl, hw7⟩; obtain ⟨hcw7, hfw7, hlw7, hmw7, hnw7⟩ := bcell3 hw7; have hzw7 := hw7.size; (try simp only [World.size_alloc, World.size_setCell, World.size_drew, size_drewN] at hzw7))
  have ct7_0 : w7.cell? ⟨w2.heap.size, 0, none⟩ = some (.int .i64 (l1)) := (hcw7 (w2.heap.size) (0) (by first | omega | (simp only [World.size_alloc, World.size_drew, World.size_setCell, size_drewN]; omega))).trans (by simp [go_sem, *]); have ct7_1 : w7.cell? ⟨w2.heap.size, 1, none⟩ = some (.int .i64 (u1)) := (hcw7 (w2.heap.size) (1) (by first | omega | (simp only [World.size_alloc, World.size_drew, World.size_setCell, size_drewN]; omega))).trans (by simp [go_sem, *]); have ot7 : w2.heap.size < w7.heap.size := (by omega)
  go_wp2
  go_ret
  exact ⟨rfl, by (repeat' (first | (with_reducible exact Below.refl _ _) | (with_reducible assumption) | (with_reducible refine Below.alloc ?_ ?_ _) | (with_reducible refine Below.drew ?_) | (with_reducible refine below_drewN ?_ _) | (with_reducible refine Below.setCell ?_ ?_ _) | (with_reducible refine below_step (by with_reducible assumption) ?_ ?_) | (with_reducible exact Below.size (by with_reducible assumption)) | go_size))⟩

theorem raySymmetric_any (x : Cr) (b : Int) (w : World) :
    Calls Try.prog 7 #[.agg #[.int .i64 x.X1, .int .i64 x.H1, .int .i64 x.V1, .int .i64 x.X2, .int .i64 x.H2, .int .i64 x.V2], .int .i64 b] w fun e w' => e = .returned (.bool true) ∧ Below w.heap.size w w' := by
  by_cases h : cE x = 0
  · have ho := cE_zero.1 h
    cases hb : inB b (-10000) 10000
    · exact sym_out x b w ho hb
    · by_cases hm : okC (mov x b)
      · exact sym_ok x b w ho hb hm
      · exact sym_bad x b w ho hb hm
  · exact sym_err x b w h
end Go.Proofs.Ytpphnnbijmoodaa
