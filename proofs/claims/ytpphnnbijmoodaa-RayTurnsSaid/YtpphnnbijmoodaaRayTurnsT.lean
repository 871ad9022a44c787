/-
  TURNS: RayTurns returns true.
-/
import Derived.Test.YtpphnnbijmoodaaRayTurns
set_option linter.unusedVariables false
set_option linter.unusedSimpArgs false
namespace Go.Proofs.Ytpphnnbijmoodaa
open Go.RowKit

theorem td_tu2 {p q v : Int} (hv : 1 ≤ v) (h : p ≤ q) : tdn p v ≤ tup q v := by
  have a := tdn_le (l := p) hv
  have b := le_tup (l := q) hv
  exact Int.le_of_mul_le_mul_right (by omega : tdn p v * v ≤ tup q v * v) (by omega)
theorem rayTurns_any (fx fz tx tz T v1 v2 : Int) (w : World) (hT : -9223372036854775808 ≤ T ∧ T ≤ 9223372036854775807) :
    Calls Try.prog 11 #[.agg #[.int .i64 fx, .int .i64 fz, .int .i64 tx, .int .i64 tz, .int .i64 T, .int .i64 v1, .int .i64 v2]] w fun e w' => e = .returned (.bool true) ∧ Below w.heap.size w w' := by
  by_cases h : tuE fx fz tx tz T v1 v2 = 0
  · have ho := tuE_zero h
    have hx := okC_turn ho
    have hb := ls_le hx
    have K2 : ∀ W, _ := fun W => rturnErr_any fx fz tx tz T v1 v2 W hT
    rw [h] at K2
    have hh := ho
    obtain ⟨p1, p2, p3, p4, p5, p6, p7⟩ := hh
    refine rayTurns_ok fx fz tx tz T v1 v2 (lsL (crT fx fz tx tz T v1 v2)) (lsH (crT fx fz tx tz T v1 v2)) (tdn (lLo (tx - fx) (2 * T - tz - fz)) v1) (tup (lHi (tx - fx) (2 * T - tz - fz)) v1) w p3 (by omega)
      (Lib.hid fun W => TurnedTime_ok fx fz tx tz T v1 v2 W ho h) (Lib.hid K2) (Lib.hid fun W => rturnedTime_any fx fz tx tz T v1 v2 W ho) ?_
    refine Lib.hid fun hV => ?_
    have o := one_speed hx (show (crT fx fz tx tz T v1 v2).V1 = (crT fx fz tx tz T v1 v2).V2 from hV) (by show (T - fz) + (T - tz) ≤ 200000; omega)
    have e : (crT fx fz tx tz T v1 v2).H1 + (crT fx fz tx tz T v1 v2).H2 = 2 * T - tz - fz := by show (T - fz) + (T - tz) = _; omega
    rw [e] at o
    have e2 : (crT fx fz tx tz T v1 v2).V2 = v1 := hV.symm
    rw [e2] at o
    have o1 : lsL (crT fx fz tx tz T v1 v2) ≤ tup (lHi (tx - fx) (2 * T - tz - fz)) v1 := o.1
    have o2 : tdn (lLo (tx - fx) (2 * T - tz - fz)) v1 ≤ lsH (crT fx fz tx tz T v1 v2) := o.2
    have o3 : tdn (lLo (tx - fx) (2 * T - tz - fz)) v1 ≤ tup (lHi (tx - fx) (2 * T - tz - fz)) v1 := td_tu2 (by omega) (lH_le (by omega) (by omega))
    refine ⟨by omega, fun W => ?_⟩
    exact timeOf_ok fx fz tx (2 * T - tz) v1 W (spE_zero.2 ⟨p1, by omega⟩) (spE_zero.2 ⟨p2, by omega⟩) ((unl_zero (by decide)).2 (inB_iff.2 p6))
  · have K2 : ∀ W, _ := fun W => rturnErr_any fx fz tx tz T v1 v2 W hT
    exact rayTurns_err fx fz tx tz T v1 v2 _ w h (Lib.hid fun W => TurnedTime_err fx fz tx tz T v1 v2 W h) (Lib.hid K2)
end Go.Proofs.Ytpphnnbijmoodaa
