/-
  THE EXAMPLES that the statements begin with: 'awake' returns true.
-/
import Derived.Test.YtpphnnbijmoodaaWay
import Derived.Test.YtpphnnbijmoodaaCrit
set_option linter.unusedVariables false
set_option linter.unusedSimpArgs false
namespace Go.Proofs.Ytpphnnbijmoodaa
open Go.RowKit

theorem ls_bd {x : Cr} (h : okC x) : (0 ≤ lsL x ∧ lsL x ≤ 12000000202) ∧ (0 ≤ lsH x ∧ lsH x ≤ 12000000202) := by
  have hi := (plc_is h).1
  have b := bnd_bd h
  have T1 := t_bd h hi
  unfold lsL lsH pL
  unfold inC at hi
  split
  · rename_i hk
    have T2 := t_bd h (t := plc x + 1) (by unfold inC; omega)
    omega
  · omega

set_option maxRecDepth 100000 in
set_option maxHeartbeats 1000000 in
theorem RoundedTime_ok (m : Md) (fx fz tx tz : Int) (w : World) (h : okM m) (hw : okW m fx fz tx tz) :
    Calls Try.prog 47 #[.agg #[.int .i64 m.Wedge, .int .i64 m.Metal, .int .i64 m.Skips, .int .i64 m.Thick], .agg #[.int .i64 fx, .int .i64 fz], .agg #[.int .i64 tx, .int .i64 tz]] w fun e w' => e = .returned (.tuple #[.int .i64 ((lsL (crM m fx fz tx tz) + lsH (crM m fx fz tx tz)) / 2), .int .i64 0]) ∧ Below w.heap.size w w' := by
  have K1 := Lib.hid (fun W => LeastTime_ok m fx fz tx tz W h hw)
  have b := ls_bd (okC_of h hw)
  generalize lsL (crM m fx fz tx tz) = lo at *
  generalize lsH (crM m fx fz tx tz) = hi at *
  clear h hw
  go_enter Try.func47, Try.ntmps47
  go_wp2_with fail; (refine (K1.out _).mono ?_; rintro e w1 ⟨rfl, hw1⟩; obtain ⟨hcw1, hfw1, hlw1, hmw1, hnw1⟩ := bcell3 hw1; have hzw1 := hw1.size; (try simp only [World.size_alloc, World.size_setCell, World.size_drew, size_drewN] at hzw1))
  go_wp2_with (go_at_call 101; refine (dd_any _ _ _ (by omega) (by omega) (by omega) (by omega)).mono ?_; rintro e w' ⟨rfl, rfl⟩)
  go_ret2
  exact ⟨rfl, by (repeat' (first | (with_reducible exact Below.refl _ _) | (with_reducible assumption) | (with_reducible refine Below.alloc ?_ ?_ _) | (with_reducible refine Below.drew ?_) | (with_reducible refine below_drewN ?_ _) | (with_reducible refine Below.setCell ?_ ?_ _) | (with_reducible refine below_step (by with_reducible assumption) ?_ ?_) | (with_reducible exact Below.size (by with_reducible assumption)) | go_size))⟩

def Mid : Cr := ⟨0, 300, 2500, 800, 300, 2500⟩
def Pla : Md := ⟨2500, 5000, 1, 1000⟩
theorem okMid : okC Mid := by unfold okC Mid; decide
theorem plcMid : plc Mid = 400 := plc_eq okMid ⟨by unfold inC Mid; decide, by unfold slp slpC Mid sgn; decide, .inr (by unfold slp slpC Mid sgn; decide)⟩
theorem sqv {n r : Int} (h0 : 0 ≤ r) (h1 : r * r ≤ n) (h2 : n < (r + 1) * (r + 1)) (hn : n < 4611686018427387904) : sq n = r ∧ sqU n = (if r * r < n then r + 1 else r) := by
  have := sq_uniq h0 h1 h2 hn
  refine ⟨this, ?_⟩
  unfold sqU; rw [this]
theorem v1 : lLo 400 300 = 500000 ∧ lHi 400 300 = 500000 := by
  obtain ⟨a, b⟩ := sqv (n := 250000000000) (r := 500000) (by decide) (by decide) (by decide) (by decide)
  exact ⟨a, b.trans (by decide)⟩
theorem v2 : lLo 401 300 = 500800 ∧ lHi 401 300 = 500801 := by
  obtain ⟨a, b⟩ := sqv (n := 250801000000) (r := 500800) (by decide) (by decide) (by decide) (by decide)
  exact ⟨a, b.trans (by decide)⟩
theorem v3 : lLo 399 300 = 499200 ∧ lHi 399 300 = 499201 := by
  obtain ⟨a, b⟩ := sqv (n := 249201000000) (r := 499200) (by decide) (by decide) (by decide) (by decide)
  exact ⟨a, b.trans (by decide)⟩
theorem v4 : lLo 0 300 = 300000 ∧ lHi 0 300 = 300000 := by
  obtain ⟨a, b⟩ := sqv (n := 90000000000) (r := 300000) (by decide) (by decide) (by decide) (by decide)
  exact ⟨a, b.trans (by decide)⟩
theorem v5 : lLo 0 1600 = 1600000 ∧ lHi 0 1600 = 1600000 := by
  obtain ⟨a, b⟩ := sqv (n := 2560000000000) (r := 1600000) (by decide) (by decide) (by decide) (by decide)
  exact ⟨a, b.trans (by decide)⟩
theorem tM : tL Mid 400 = 4000000 ∧ tH Mid 400 = 4000000 ∧ tL Mid 401 = 4000000 ∧ tH Mid 401 = 4000008 := by
  unfold tL tH Mid
  simp only [show (400 : Int) - 0 = 400 from rfl, show (800 : Int) - 400 = 400 from rfl, show (401 : Int) - 0 = 401 from rfl, show (800 : Int) - 401 = 399 from rfl, v1.1, v1.2, v2.1, v2.2, v3.1, v3.2]
  decide
theorem lsMid : lsL Mid = 3999972 ∧ lsH Mid = 4000000 := by
  obtain ⟨a, b, c, d⟩ := tM
  have hm : max Mid.X1 Mid.X2 = 800 := by decide
  unfold lsL lsH pL
  rw [plcMid, hm, if_pos (by decide), if_pos (by decide), a, b, show (400 : Int) + 1 = 401 from rfl, c, d]
  decide
def Pc : Cr := crM Pla 0 (-300) 0 400
theorem okPla : okM Pla := by unfold okM Pla; decide
theorem okWP : okW Pla 0 (-300) 0 400 := by unfold okW Pla; decide
theorem PcIs : Pc = ⟨0, 300, 2500, 0, 1600, 5000⟩ := by unfold Pc crM unf Pla; rfl
theorem okPc : okC Pc := okC_of okPla okWP
theorem plcP : plc Pc = 0 := plc_eq okPc ⟨by rw [PcIs]; unfold inC; decide, by rw [PcIs]; unfold slp slpC sgn; decide, .inl (by rw [PcIs]; decide)⟩
theorem lsP : (lsL Pc + lsH Pc) / 2 = 4399992 := by
  have e : tL Pc 0 = 4400000 ∧ tH Pc 0 = 4400000 := by
    rw [PcIs]
    unfold tL tH
    simp only [show (0 : Int) - 0 = 0 from rfl, v4.1, v4.2, v5.1, v5.2]
    decide
  have hm : max Pc.X1 Pc.X2 = 0 := by rw [PcIs]; decide
  unfold lsL lsH pL
  rw [plcP, hm, if_neg (by decide), if_neg (by decide), e.1, e.2, PcIs]
  decide
theorem crit1 : crN 2500 5000 = 1 ∧ crD 2500 5000 = 4 := by
  unfold crN crD
  rw [gcdR_nn _ _ (by decide) (by decide)]
  decide

theorem awC (w : World) : Calls Try.prog 35 #[.agg #[.int .i64 0, .int .i64 300, .int .i64 2500, .int .i64 800, .int .i64 300, .int .i64 2500]] w fun e w' => e = .returned (.tuple #[.int .i64 400, .int .i64 0]) ∧ Below w.heap.size w w' := by
  have := crossing_ok Mid w okMid
  rw [plcMid] at this
  exact this
theorem awL (w : World) : Calls Try.prog 36 #[.agg #[.int .i64 0, .int .i64 300, .int .i64 2500, .int .i64 800, .int .i64 300, .int .i64 2500]] w fun e w' => e = .returned (.tuple #[.agg #[.int .i64 3999972, .int .i64 4000000], .int .i64 0]) ∧ Below w.heap.size w w' := by
  have := least_ok Mid w okMid
  rw [lsMid.1, lsMid.2] at this
  exact this
theorem awR (w : World) : Calls Try.prog 47 #[.agg #[.int .i64 2500, .int .i64 5000, .int .i64 1, .int .i64 1000], .agg #[.int .i64 0, .int .i64 (-300)], .agg #[.int .i64 0, .int .i64 400]] w fun e w' => e = .returned (.tuple #[.int .i64 4399992, .int .i64 0]) ∧ Below w.heap.size w w' := by
  have := RoundedTime_ok Pla 0 (-300) 0 400 w okPla okWP
  rw [show (lsL (crM Pla 0 (-300) 0 400) + lsH (crM Pla 0 (-300) 0 400)) / 2 = 4399992 from lsP] at this
  exact this
theorem awS (w : World) : Calls Try.prog 64 #[.int .i64 2500, .int .i64 5000] w fun e w' => e = .returned (.tuple #[.agg #[.int .i64 1, .int .i64 4], .int .i64 0]) ∧ Below w.heap.size w w' := by
  have := critical_ok 2500 5000 w (by rw [qE_zero]; decide)
  rw [crit1.1, crit1.2] at this
  exact this
theorem middle_any (w : World) : Calls Try.prog 75 #[] w fun e w' => e = .returned (.agg #[.int .i64 0, .int .i64 300, .int .i64 2500, .int .i64 800, .int .i64 300, .int .i64 2500]) ∧ Below w.heap.size w w' := by
  go_enter Try.func75, Try.ntmps75
  go_wp2
  go_returns
  exact ⟨rfl, by (repeat' (first | (with_reducible exact Below.refl _ _) | (with_reducible assumption) | (with_reducible refine Below.alloc ?_ ?_ _) | (with_reducible refine Below.drew ?_) | (with_reducible refine below_drewN ?_ _) | (with_reducible refine Below.setCell ?_ ?_ _) | (with_reducible refine below_step (by with_reducible assumption) ?_ ?_) | (with_reducible exact Below.size (by with_reducible assumption)) | go_size))⟩
theorem plate_any (w : World) : Calls Try.prog 76 #[] w fun e w' => e = .returned (.agg #[.int .i64 2500, .int .i64 5000, .int .i64 1, .int .i64 1000]) ∧ Below w.heap.size w w' := by
  go_enter Try.func76, Try.ntmps76
  go_wp2
  go_returns
  exact ⟨rfl, by (repeat' (first | (with_reducible exact Below.refl _ _) | (with_reducible assumption) | (with_reducible refine Below.alloc ?_ ?_ _) | (with_reducible refine Below.drew ?_) | (with_reducible refine below_drewN ?_ _) | (with_reducible refine Below.setCell ?_ ?_ _) | (with_reducible refine below_step (by with_reducible assumption) ?_ ?_) | (with_reducible exact Below.size (by with_reducible assumption)) | go_size))⟩

set_option maxRecDepth 100000 in
set_option maxHeartbeats 1000000 in
theorem awake_any (w : World) : Calls Try.prog 19 #[] w fun e w' => e = .returned (.bool true) ∧ Below w.heap.size w w' := by
  go_enter Try.func19, Try.ntmps19
  go_wp2_with fail; (refine (middle_any _).mono ?_; rintro e w1 ⟨rfl, hw1⟩; obtain ⟨hcw1, hfw1, hlw1, hmw1, hnw1⟩ := bcell3 hw1; have hzw1 := hw1.size; (try simp only [World.size_alloc, World.size_setCell, World.size_drew, size_drewN] at hzw1))
  go_wp2_with fail; (refine (awC _).mono ?_; rintro e w2 ⟨rfl, hw2⟩; obtain ⟨hcw2, hfw2, hlw2, hmw2, hnw2⟩ := bcell3 hw2; have hzw2 := hw2.size; (try simp only [World.size_alloc, World.size_setCell, World.size_drew, size_drewN] at hzw2))
  go_wp2_with fail; (refine (middle_any _).mono ?_; rintro e w3 ⟨rfl, hw3⟩; obtain ⟨hcw3, hfw3, hlw3, hmw3, hnw3⟩ := bcell3 hw3; have hzw3 := hw3.size; (try simp only [World.size_alloc, World.size_setCell, World.size_drew, size_drewN] at hzw3))
  go_wp2_with fail; (refine (awL _).mono ?_; rintro e w4 ⟨rfl, hw4⟩; obtain ⟨hcw4, hfw4, hlw4, hmw4, hnw4⟩ := bcell3 hw4; have hzw4 := hw4.size; (try simp only [World.size_alloc, World.size_setCell, World.size_drew, size_drewN] at hzw4))
  go_wp2_with fail; (refine (plate_any _).mono ?_; rintro e w5 ⟨rfl, hw5⟩; obtain ⟨hcw5, hfw5, hlw5, hmw5, hnw5⟩ := bcell3 hw5; have hzw5 := hw5.size; (try simp only [World.size_alloc, World.size_setCell, World.size_drew, size_drewN] at hzw5))
  have o5 : w4.heap.size < w5.heap.size := by omega
  go_wp2_with fail; (refine (awR _).mono ?_; rintro e w6 ⟨rfl, hw6⟩; obtain ⟨hcw6, hfw6, hlw6, hmw6, hnw6⟩ := bcell3 hw6; have hzw6 := hw6.size; (try simp only [World.size_alloc, World.size_setCell, World.size_drew, size_drewN] at hzw6))
  have o6 : w4.heap.size < w6.heap.size := by omega
  go_wp2_with fail; (refine (awS _).mono ?_; rintro e w7 ⟨rfl, hw7⟩; obtain ⟨hcw7, hfw7, hlw7, hmw7, hnw7⟩ := bcell3 hw7; have hzw7 := hw7.size; (try simp only [World.size_alloc, World.size_setCell, World.size_drew, size_drewN] at hzw7))
  have o7 : w4.heap.size < w7.heap.size := by omega
  go_wp2
  go_ret
  exact ⟨rfl, by (repeat' (first | (with_reducible exact Below.refl _ _) | (with_reducible assumption) | (with_reducible refine Below.alloc ?_ ?_ _) | (with_reducible refine Below.drew ?_) | (with_reducible refine below_drewN ?_ _) | (with_reducible refine Below.setCell ?_ ?_ _) | (with_reducible refine below_step (by with_reducible assumption) ?_ ?_) | (with_reducible exact Below.size (by with_reducible assumption)) | go_size))⟩
end Go.Proofs.Ytpphnnbijmoodaa
